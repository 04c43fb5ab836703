/- What Crash does. -/
import Derived.Test.YtlgaianlkbaedaaH12
import Derived.Deep.QuietTactic
import Derived.BigQuiet
namespace Go.Proofs.Ytlgaianlkbaedaa
open Go.RowKit Go.Maps Go.Sort
set_option maxRecDepth 100000
set_option linter.unusedSimpArgs false
set_option linter.unusedVariables false

theorem row_shape {w : World} {base : Nat} {v : Value} {n : Nat} {xs : List Value} (h : w.ownsRow base 9 1 v n xs) :
    ∃ oa cap, v = .slice oa n cap ∧ (0 < n → ∃ g, oa = some ⟨g, 0, none⟩ ∧ base ≤ g ∧ g < w.heap.size ∧ ∀ j u, xs[j]? = some u → w.cell? ⟨g, j, none⟩ = some u) := by
  have hc := fun g => h.cells (g := g)
  have hlt := h.lt
  obtain ⟨_, ⟨rfl, h0⟩ | ⟨g, cap, cur, rfl, hb, hg, hn, hc', hs, ht⟩⟩ := h
  · exact ⟨none, 0, by rw [h0], fun h => by omega⟩
  · refine ⟨_, cap, rfl, fun _ => ⟨g, rfl, hb, (hlt g rfl).2, fun j u hu => ?_⟩⟩
    have := hc g rfl j u hu
    have hadd : (⟨g, 0, none⟩ : Addr).add j = ⟨g, j, none⟩ := by unfold Addr.add; split <;> simp_all
    rw [hadd] at this
    exact this

theorem DiskM.names_le {w : World} {S : Nat → Prop} {a size : Nat} {mo : Option Nat} {fs : List (List UInt8 × FileE)} (h : DiskM w S a size mo fs) : ∀ p ∈ fs, p.1.length ≤ maxLen := by
  intro p hp
  cases mo with
  | none => have e : fs = [] := h.files; subst e; cases hp
  | some b =>
    have hown : w.ownsMap Try.prog 9 Rh b fs.length (dmap fs) := h.files
    refine strKeys_le hown Try.underlying9 p.1 ?_
    rw [strKeys_dmap]
    exact List.mem_map.2 ⟨p, hp, rfl⟩

/-- A round of a crash at a file that has bytes which are not safe: what is asked of the callees. -/
theorem crash_copy {wr W : World} {S : Nat → Prop} {a size : Nat} {mo : Option Nat} {fs : List (List UInt8 × FileE)} (h : DiskM wr S a size mo fs) (hW : Below wr.heap.size wr W) {n : ByteArray} (hn : n.size ≤ maxLen) {sv : Value} {bs : List UInt8} {safe : Nat}
    {gp capp : Nat} (hsv : sv = .slice (some ⟨gp, 0, none⟩) bs.length capp) (hf : flook fs n.data.toList = some ⟨sv, bs, safe⟩) (L : Nat) (hL : L ≤ bs.length) :
    Calls Try.prog 37 #[.slice (some ⟨gp, 0, none⟩) L capp] W fun e w' => ∃ v, e = .returned v ∧ (∃ oa l c, v = .slice oa l c) ∧ Below wr.heap.size wr w' ∧
      Calls Try.prog 36 #[.pointer (some ⟨a, 0, none⟩), .string n, .agg #[v, .int .i64 (L : Int)]] w' fun e w'' => e = .returned (.tuple #[]) ∧ After S wr w'' a size (fput fs n.data.toList ⟨v, bs.take L, L⟩) := by
  have hB := (h.owns _ (flook_mem hf)).1
  simp only at hB
  subst hsv
  have hsome : (flook fs n.data.toList).isSome = true := by rw [hf]; rfl
  have hlen : bs.length ≤ 16777216 := by
    have ht := total_fdel_le fs n.data.toList
    have hle : lenAt fs n.data.toList = bs.length := by unfold lenAt; rw [hf]
    have := h.room; have := h.small; omega
  have hlt : (bs.take L).length = L := by rw [List.length_take]; omega
  have hsrc : Src W (some ⟨gp, 0, none⟩) (bs.take L) := .inr ⟨gp, rfl, fun i hi => by
    have hi' : i < bs.length := by omega
    have hBW := hB.kept (w' := W) (S' := S) (fun _ hk => hk) (fun k hk => hW.block k (hB.lt k hk).2)
    rw [hBW.cell i hi']
    simp⟩
  have hc := copied_any W (some ⟨gp, 0, none⟩) capp (bs.take L) hsrc (by omega) (fun e => by cases e)
  rw [hlt] at hc
  refine hc.mono (fun e w' ⟨v, h1, h2, h3⟩ => ?_)
  have hW' : Below wr.heap.size wr w' := hW.trans (h3.mono hW.size)
  have hshv : ∃ oa l c, v = .slice oa l c := by obtain ⟨oa, c, e⟩ := h2.shape; exact ⟨oa, _, c, e⟩
  refine ⟨v, h1, hshv, hW', ?_⟩
  have hd : DiskM w' (fun k => S k ∨ (W.heap.size ≤ k ∧ k < w'.heap.size)) a size mo fs := (h.under hW').more (fun k hk => .inl hk) (fun k hk => by
    rcases hk with hk | hk
    · have := h.below k hk; have := hW'.size; omega
    · exact hk.2)
  have ht := total_fdel_le fs n.data.toList
  have hle : lenAt fs n.data.toList = bs.length := by unfold lenAt; rw [hf]
  have := put_any hd n hn ⟨v, bs.take L, L⟩ (h2.kept (fun k hk => .inr hk) (fun _ _ => rfl)) (by simp only; omega)
    (fun p hp hne k hk hq => by
      have h4 := ((h.owns p hp).1.lt k hq).2
      have h5 := (h2.lt k hk).1.1
      have := hW.size
      omega) (by rw [total_fput]; simp only; have := h.room; omega) (few_fput _ (.inl hsome) h.few)
  refine this.mono (fun e w'' ⟨h1, h2⟩ => ⟨h1, ?_⟩)
  refine After.then (Keeps.of_below hW') (fun k hk => ?_) (fun k hk => .inl hk) h2
  rcases hk with hk | hk
  · exact .inl hk
  · exact .inr (by have := hW.size; omega)

set_option maxHeartbeats 1600000 in
theorem crash_any {w : World} {S : Nat → Prop} {a size : Nat} {mo : Option Nat} {fs : List (List UInt8 × FileE)} (h : DiskM w S a size mo fs) (oa : Option Addr) (ks : List Int) (cap : Nat) (hk : dIntsAt w oa ks) (hlen : ks.length ≤ maxLen)
    (hkS : ks ≠ [] → ∀ b off, oa = some ⟨b, off, none⟩ → ¬ S b) :
    Calls Try.prog 16 #[.pointer (some ⟨a, 0, none⟩), .slice oa ks.length cap] w fun e w' => e = .returned (.tuple #[]) ∧ ∃ fs', abs fs' = crashL ks 0 fs.length (abs fs) ∧ After S w w' a size fs' := by
  have HN : Hid (Calls Try.prog 34 #[.pointer (some ⟨a, 0, none⟩)] w fun e w' => ∃ oa cap, e = .returned (.slice oa fs.length cap) ∧ (0 < fs.length → ∃ g, oa = some ⟨g, 0, none⟩ ∧ w.heap.size ≤ g ∧ g < w'.heap.size ∧ ∀ j u, ((fs.map (·.1)).map encStr)[j]? = some u → w'.cell? ⟨g, j, none⟩ = some u) ∧ Below w.heap.size w w') :=
    (names_any h).mono (fun e w' ⟨v, h1, h2, h3⟩ => by
      obtain ⟨oa, cap, rfl, hg⟩ := row_shape h2
      exact ⟨oa, cap, h1, hg, h3⟩)
  have hfew := h.few
  by_cases h0 : fs.length = 0
  · have e0 : fs = [] := List.eq_nil_of_length_eq_zero h0
    subst e0
    go_enter Try.func16, Try.ntmps16
    go_wp2_with (go_at_call 34; refine HN.out.mono ?_; rintro e w1 ⟨oav, capv, rfl, hrow, hb1⟩)
    refine wp_loop_rounds 1 ?_
    rw [rounds_succ]
    go_wp2
    go_end0
    exact ⟨rfl, [], rfl, After.same h hb1⟩
  · have HD : Hid (DiskM w S a size mo fs) := h
    clear h
    go_enter Try.func16, Try.ntmps16
    go_wp2_with (go_at_call 34; refine HN.out.mono ?_; rintro e w1 ⟨oav, capv, rfl, hrow, hb1⟩; obtain ⟨g, hg, hg1, hg2, hcell⟩ := hrow (by omega); subst hg)
    have HC : Hid (∀ j u, ((fs.map (·.1)).map encStr)[j]? = some u → w1.cell? ⟨g, j, none⟩ = some u) := hcell
    clear hcell hrow
    go_loopw [4, 13] (fun i0 j0 wr => ∃ (j : Nat) (S' : Nat → Prop) (mo' : Option Nat) (fs' : List (List UInt8 × FileE)), j ≤ fs.length ∧ j0 = .int .i64 (j : Int) ∧ i0 = .int .i64 (dirtyN j (abs fs) : Int) ∧
        Hid (DiskM wr S' a size mo' fs' ∧ (∀ k, S' k → S k ∨ w1.heap.size ≤ k) ∧ (∀ k, S k → S' k) ∧ Keeps S w1 wr ∧ abs fs' = crashL ks 0 j (abs fs)))
      (fun _ j0 _ => fs.length - (intOf j0).toNat)
    case atStart =>
      exact ⟨0, S, mo, fs, Nat.zero_le _, rfl, rfl, HD.out.under hb1, fun k hk => .inl hk, fun k hk => hk, Keeps.refl _ _, rfl⟩
    case round =>
      obtain ⟨j, S', mo', fs', hj, rfl, rfl, hI⟩ := hrel
      by_cases hlt : j < fs.length
      · obtain ⟨hd, hs1, hs2, hk3, habs⟩ := hI.out
        have hnames : fs'.map (·.1) = fs.map (·.1) := by
          have e1 := congrArg (List.map AF.name) habs
          rw [crashL_names] at e1
          simpa [abs, absE, Function.comp_def] using e1
        have hlen' : fs'.length = fs.length := by simpa using congrArg List.length hnames
        have hpj : fs'[j]? = some fs'[j] := List.getElem?_eq_getElem (by omega)
        have hat : (abs fs)[j]? = some (absE fs'[j]) := by
          have := crashL_at ks 0 j (abs fs)
          rw [← habs, abs_at, hpj] at this
          exact this.symm
        have hmem : fs'[j] ∈ fs' := List.getElem_mem _
        have hcj : wr.cell? ⟨g, j, none⟩ = some (encStr fs'[j].1) := by
          have hb : wr.heap[g]? = w1.heap[g]? := hk3.block g hg2 (fun hS => by have := HD.out.below g hS; omega)
          refine (World.cell?_of_block (a := ⟨g, j, none⟩) hb).trans (HC.out j _ ?_)
          have e2 : (fs.map (·.1))[j]? = some fs'[j].1 := by rw [← hnames, List.getElem?_map, hpj]; rfl
          rw [List.getElem?_map, e2]; rfl
        have hflook := flook_of_mem hd.keys hmem
        have hnl := hd.names_le _ hmem
        have hown := hd.owns _ hmem
        have hfp : ∀ f, fput fs' fs'[j].1 f = fs'.set j (fs'[j].1, f) := fun f => fput_set _ f fs' j hd.rising (fun p hp => by rw [hpj] at hp; rw [← Option.some.inj hp]) (by omega)
        generalize hpe : fs'[j] = p at *
        obtain ⟨nm, sv, bs, safe⟩ := p
        simp only at hcj hflook hnl hown hfp
        obtain ⟨hB, hsafe⟩ := hown
        obtain ⟨oap, capp, hsv⟩ := hB.shape
        have c1 := hd.c1
        have hl := hd.files.look ⟨nm.toArray⟩ (by simpa [ByteArray.size] using hnl)
        have ev : fval fs' nm = .agg #[.slice oap bs.length capp, .int .i64 (safe : Int)] := by unfold fval; rw [hflook]; show FileE.val _ = _; unfold FileE.val; rw [hsv]
        simp only [List.toList_toArray] at hl
        rw [ev] at hl
        have hcj' : wr.cell? ⟨g, j, none⟩ = some (.string ⟨nm.toArray⟩) := hcj
        have hlb : bs.length ≤ 16777216 := by
          have := hd.at_name nm
          obtain ⟨_, _, _, _, _, h5⟩ := this
          unfold bsAt at h5
          rw [hflook] at h5
          exact h5
        have HI : Hid (DiskM wr S' a size mo' fs' ∧ (∀ k, S' k → S k ∨ w1.heap.size ≤ k) ∧ (∀ k, S k → S' k) ∧ Keeps S w1 wr ∧ abs fs' = crashL ks 0 j (abs fs)) := ⟨hd, hs1, hs2, hk3, habs⟩
        have HAt : Hid ((abs fs)[j]? = some ⟨nm, bs, safe⟩) := hat
        have HFl : Hid (flook fs' nm = some ⟨sv, bs, safe⟩) := hflook
        have HFp : Hid (∀ f, fput fs' nm f = fs'.set j (nm, f)) := hfp
        have HSv : Hid (sv = .slice oap bs.length capp) := hsv
        have HB : Hid (BytesAt wr S' sv bs) := hB
        have hNl : nm.length ≤ maxLen := hnl
        have HPj : Hid (fs'[j]? = some (nm, ⟨sv, bs, safe⟩)) := hpj
        have hdj := dirtyN_le j (abs fs)
        clear hI hd hs1 hs2 hk3 habs hnames hlen' hpj hat hmem hcj hflook hnl hfp hB hsv ev hpe
        by_cases hcl : bs.length = safe
        · have hz : (((bs.length : Nat) : Int) - (safe : Int) == 0) = true := by simp; omega
          have HCl : Hid (bs.length = safe) := hcl
          clear hcl
          go_wp2
          go_roundw
          case rel =>
            obtain ⟨hd, hs1, hs2, hk3, habs⟩ := HI.out
            refine ⟨j + 1, S', mo', fs', by omega, by go_num, by rw [dirtyN_clean j _ _ HAt.out HCl.out], hd.under ((Below.refl _ _).alloc (Nat.le_refl _) _), hs1, hs2, hk3.trans (T := fun _ => False) (Keeps.of_below ((Below.refl _ _).alloc (Nat.le_refl _) _)) (fun x hx => hx.elim), ?_⟩
            rw [crashL_clean ks 0 j _ _ HAt.out HCl.out]
            exact habs
          case measure => simp [intOf]; omega
        · obtain ⟨lo, hlo⟩ : ∃ lo : Nat, lo = bs.length - safe := ⟨_, rfl⟩
          obtain ⟨L, hL⟩ : ∃ L : Nat, L = safe + keptN ks (dirtyN j (abs fs)) lo := ⟨_, rfl⟩
          have hkl := keptN_le ks (dirtyN j (abs fs)) lo
          have hlo1 : ((bs.length : Nat) : Int) - (safe : Int) = (lo : Int) := by omega
          have hL1 : (safe : Int) + (keptN ks (dirtyN j (abs fs)) lo : Int) = (L : Int) := by omega
          have hz : ((lo : Int) == 0) = false := by simp; omega
          have hLb : L ≤ bs.length := by omega
          have hLc : bs.length ≤ capp := by
            rcases HB.out with ⟨h1, h2⟩ | ⟨g', cap', cur, mk, e, _, _, h3, _⟩
            · exfalso; rw [h2] at hcl hsafe; simp at hcl hsafe; omega
            · rw [HSv.out] at e; cases e; exact h3
          obtain ⟨gp, hgp⟩ : ∃ gp, oap = some ⟨gp, 0, none⟩ := by
            rcases HB.out with ⟨h1, h2⟩ | ⟨g', cap', cur, mk, e, _, _, h3, _⟩
            · exfalso; rw [h2] at hcl hsafe; simp at hcl hsafe; omega
            · rw [HSv.out] at e; cases e; exact ⟨_, rfl⟩
          subst hgp
          have HCl : Hid (bs.length ≠ safe) := hcl
          have HL : Hid (L = safe + keptN ks (dirtyN j (abs fs)) (bs.length - safe)) := by show L = _; rw [← hlo]; exact hL
          have HK : Hid (∀ W, (∀ k, k < wr.heap.size → W.heap[k]? = wr.heap[k]?) → Calls Try.prog 35 #[.slice oa ks.length cap, .int .i64 (dirtyN j (abs fs) : Int), .int .i64 (lo : Int)] W fun e w' => e = .returned (.int .i64 (keptN ks (dirtyN j (abs fs)) lo : Int)) ∧ w' = W) := by
            intro W hW
            refine kept_any W oa ks cap _ lo ?_ hlen (by omega) (by omega)
            rcases hk with h | ⟨b, off, e, hc⟩
            · exact .inl h
            · by_cases hks : ks = []
              · exact .inl hks
              · refine dIntsAt.kept (w := w) (.inr ⟨b, off, e, hc⟩) (fun b' off' e' => ?_)
                rw [e] at e'; cases e'
                have hpos : 0 < ks.length := List.length_pos_iff.2 hks
                have hbw := World.block_lt_of_cell? w _ (hc 0 hpos).1
                simp only at hbw
                have h1 := hb1.size
                have h2 := HI.out.2.2.2.1
                exact (hW b (by have := h2.size; omega)).trans ((h2.block b (by omega) (hkS hks b off e)).trans (hb1.block b hbw))
          have HCp : Hid (∀ W, Below wr.heap.size wr W → Calls Try.prog 37 #[.slice (some ⟨gp, 0, none⟩) L capp] W fun e w' => ∃ v, e = .returned v ∧ (∃ oa l c, v = .slice oa l c) ∧ Below wr.heap.size wr w' ∧
              Calls Try.prog 36 #[.pointer (some ⟨a, 0, none⟩), .string ⟨nm.toArray⟩, .agg #[v, .int .i64 (L : Int)]] w' fun e w'' => e = .returned (.tuple #[]) ∧ After S' wr w'' a size (fput fs' nm ⟨v, bs.take L, L⟩)) := by
            intro W hW
            exact crash_copy HI.out.1 hW (n := ⟨nm.toArray⟩) (by simpa [ByteArray.size] using hNl) HSv.out HFl.out L hLb
          have hcap : capp ≤ 9223372036854775807 := by
            rcases HB.out with ⟨h1, h2⟩ | ⟨g', cap', cur, mk, e, _, _, h3, h4, _⟩
            · exfalso; rw [h2] at hcl hsafe; simp at hcl hsafe; omega
            · rw [HSv.out] at e; cases e; unfold maxLen at h4; omega
          clear hcl hlo hL hk hkl
          go_wp2
          go_quiet ((go_at_call 35; exact Calls.quiet_of_same (HK.out _ (fun k hk => Below.heap_alloc wr _ k hk))))
          go_wp2_with (go_at_call 37; refine (HCp.out _ (below_drewN ((Below.refl _ _).alloc (Nat.le_refl _) _) _)).mono ?_; rintro e w2 ⟨v, rfl, ⟨oa2, l2, c2, rfl⟩, hb2, hput⟩; have HPut : Hid (Calls Try.prog 36 #[.pointer (some ⟨a, 0, none⟩), .string ⟨nm.toArray⟩, .agg #[.slice oa2 l2 c2, .int .i64 (L : Int)]] w2 fun e w'' => e = .returned (.tuple #[]) ∧ After S' wr w'' a size (fput fs' nm ⟨.slice oa2 l2 c2, bs.take L, L⟩)) := hput; clear hput)
          go_wp2_with (go_at_call 36; refine HPut.out.mono ?_; rintro e w3 ⟨rfl, hA⟩)
          go_roundw
          case rel =>
            obtain ⟨hd, hs1, hs2, hk3, habs⟩ := HI.out
            obtain ⟨S2, mo2, hd2, g1, g2, g3⟩ := hA
            refine ⟨j + 1, S2, mo2, _, by omega, by go_num, ?_, hd2, fun k hk => ?_, fun k hk => g2 k (hs2 k hk), hk3.trans g3 hs1, ?_⟩
            · rw [dirtyN_dirty j _ _ HAt.out HCl.out]; go_num
            · rcases g1 k hk with h | h
              · exact hs1 k h
              · exact .inr (by have := hk3.size; omega)
            · rw [crashL_dirty ks 0 j _ _ HAt.out HCl.out, HFp.out, abs_set, habs, Nat.zero_add]
              unfold crash1 absE
              simp only
              rw [← HL.out]
          case measure => simp [intOf]; omega
      · go_wp2
        go_end0
        have hj' : j = fs.length := by omega
        subst hj'
        obtain ⟨hd, hs1, hs2, hk3, habs⟩ := hI.out
        refine ⟨rfl, fs', habs, S', mo', hd, fun k hk => ?_, hs2, (Keeps.of_below hb1).trans hk3 (fun x hx => .inl hx)⟩
        rcases hs1 k hk with h | h
        · exact .inl h
        · exact .inr (Nat.le_trans hb1.size h)
end Go.Proofs.Ytlgaianlkbaedaa

