/- What Crash does. -/
import Derived.Test.YtclldpecbocclaaGreatK2
import Derived.Deep.QuietTactic
import Derived.BigQuiet
import Derived.Deep.RegionWith
import Derived.Deep.RegionHeld3
namespace Go.Proofs.YtclldpecbocclaaGreat
open Go.RowKit Go.Maps Go.Sort
set_option maxRecDepth 100000
set_option linter.unusedSimpArgs false
set_option linter.unusedVariables false

theorem row_shape {w : World} {base : Nat} {v : Value} {n : Nat} {xs : List Value} (h : w.ownsRow base 9 1 v n xs) :
    ∃ oa cap, v = .slice oa n cap ∧ (0 < n → ∃ g, oa = some ⟨g, 0, none⟩ ∧ base ≤ g ∧ g < w.heap.size ∧ ∀ j u, xs[j]? = some u → w.cell? ⟨g, j, none⟩ = some u) := by
  have hc := fun g => h.cells (g := g)
  have hlt := h.lt
  obtain ⟨_, ⟨rfl, h0⟩ | ⟨g, cap, cur, rfl, hb, hg, hn, hc', hs, ht⟩⟩ := h
  · exact ⟨none, 0, by rw [h0], fun h => by omega⟩
  · refine ⟨_, cap, rfl, fun _ => ⟨g, rfl, hb, (hlt g rfl).2, fun j u hu => ?_⟩⟩
    have := hc g rfl j u hu
    have hadd : (⟨g, 0, none⟩ : Addr).add j = ⟨g, j, none⟩ := by unfold Addr.add; split <;> simp_all
    rw [hadd] at this
    exact this

theorem DiskM.names_le {w : World} {S : Nat → Prop} {a size : Nat} {mo : Option Nat} {fs : List (List UInt8 × FileE)} (h : DiskM w S a size mo fs) : ∀ p ∈ fs, p.1.length ≤ maxLen := by
  intro p hp
  cases mo with
  | none => have e : fs = [] := h.files; subst e; cases hp
  | some b =>
    have hown : w.ownsMap Tryz.prog 9 Rh b fs.length (dmap fs) := h.files
    refine strKeys_le hown Tryz.underlying9 p.1 ?_
    rw [strKeys_dmap]
    exact List.mem_map.2 ⟨p, hp, rfl⟩

/-- A round of a crash at a file that has bytes which are not safe: what is asked of the callees. -/
theorem crash_copy {wr W : World} {S : Nat → Prop} {a size : Nat} {mo : Option Nat} {fs : List (List UInt8 × FileE)} (h : DiskM wr S a size mo fs) (hW : Below wr.heap.size wr W) {n : ByteArray} (hn : n.size ≤ maxLen) {sv : Value} {bs : List UInt8} {safe : Nat}
    {gp capp : Nat} (hsv : sv = .slice (some ⟨gp, 0, none⟩) bs.length capp) (hf : flook fs n.data.toList = some ⟨sv, bs, safe⟩) (L : Nat) (hL : L ≤ bs.length) :
    Calls Tryz.prog 38 #[.slice (some ⟨gp, 0, none⟩) L capp] W fun e w' => ∃ v, e = .returned v ∧ (∃ oa l c, v = .slice oa l c) ∧ Below wr.heap.size wr w' ∧
      Calls Tryz.prog 37 #[.pointer (some ⟨a, 0, none⟩), .string n, .agg #[v, .int .i64 (L : Int)]] w' fun e w'' => e = .returned (.tuple #[]) ∧ After S wr w'' a size (fput fs n.data.toList ⟨v, bs.take L, L⟩) := by
  have hB := (h.owns _ (flook_mem hf)).1
  simp only at hB
  subst hsv
  have hsome : (flook fs n.data.toList).isSome = true := by rw [hf]; rfl
  have hlen : bs.length ≤ 16777216 := by
    have ht := total_fdel_le fs n.data.toList
    have hle : lenAt fs n.data.toList = bs.length := by unfold lenAt; rw [hf]
    have := h.room; have := h.small; omega
  have hlt : (bs.take L).length = L := by rw [List.length_take]; omega
  have hsrc : Src W (some ⟨gp, 0, none⟩) (bs.take L) := .inr ⟨gp, rfl, fun i hi => by
    have hi' : i < bs.length := by omega
    have hBW := hB.kept (w' := W) (S' := S) (fun _ hk => hk) (fun k hk => hW.block k (hB.lt k hk).2)
    rw [hBW.cell i hi']
    simp⟩
  have hc := copied_any W (some ⟨gp, 0, none⟩) capp (bs.take L) hsrc (by omega) (fun e => by cases e)
  rw [hlt] at hc
  refine hc.mono (fun e w' ⟨v, h1, h2, h3⟩ => ?_)
  have hW' : Below wr.heap.size wr w' := hW.trans (h3.mono hW.size)
  have hshv : ∃ oa l c, v = .slice oa l c := by obtain ⟨oa, c, e⟩ := h2.shape; exact ⟨oa, _, c, e⟩
  refine ⟨v, h1, hshv, hW', ?_⟩
  have hd : DiskM w' (fun k => S k ∨ (W.heap.size ≤ k ∧ k < w'.heap.size)) a size mo fs := (h.under hW').more (fun k hk => .inl hk) (fun k hk => by
    rcases hk with hk | hk
    · have := h.below k hk; have := hW'.size; omega
    · exact hk.2)
  have ht := total_fdel_le fs n.data.toList
  have hle : lenAt fs n.data.toList = bs.length := by unfold lenAt; rw [hf]
  have := put_any hd n hn ⟨v, bs.take L, L⟩ (h2.kept (fun k hk => .inr hk) (fun _ _ => rfl)) (by simp only; omega)
    (fun p hp hne k hk hq => by
      have h4 := ((h.owns p hp).1.lt k hq).2
      have h5 := (h2.lt k hk).1.1
      have := hW.size
      omega) (by rw [total_fput]; simp only; have := h.room; omega) (few_fput _ (.inl hsome) h.few)
  refine this.mono (fun e w'' ⟨h1, h2⟩ => ⟨h1, ?_⟩)
  refine After.then (Keeps.of_below hW') (fun k hk => ?_) (fun k hk => .inl hk) h2
  rcases hk with hk | hk
  · exact .inl hk
  · exact .inr (by have := hW.size; omega)

set_option maxHeartbeats 1600000 in
theorem crash_any {w : World} {S : Nat → Prop} {a size : Nat} {mo : Option Nat} {fs : List (List UInt8 × FileE)} (h : DiskM w S a size mo fs) (oa : Option Addr) (ks : List Int) (cap : Nat) (hk : dIntsAt w oa ks) (hlen : ks.length ≤ maxLen)
    (hkS : ks ≠ [] → ∀ b off, oa = some ⟨b, off, none⟩ → ¬ S b) :
    Calls Tryz.prog 16 #[.pointer (some ⟨a, 0, none⟩), .slice oa ks.length cap] w fun e w' => e = .returned (.tuple #[]) ∧ ∃ fs', abs fs' = crashL ks 0 fs.length (abs fs) ∧ After S w w' a size fs' := by
  have HN : Hid (Calls Tryz.prog 35 #[.pointer (some ⟨a, 0, none⟩)] w fun e w' => ∃ oa cap, e = .returned (.slice oa fs.length cap) ∧ (0 < fs.length → ∃ g, oa = some ⟨g, 0, none⟩ ∧ w.heap.size ≤ g ∧ g < w'.heap.size ∧ ∀ j u, ((fs.map (·.1)).map encStr)[j]? = some u → w'.cell? ⟨g, j, none⟩ = some u) ∧ Below w.heap.size w w') :=
    (names_any h).mono (fun e w' ⟨v, h1, h2, h3⟩ => by
      obtain ⟨oa, cap, rfl, hg⟩ := row_shape h2
      exact ⟨oa, cap, h1, hg, h3⟩)
  have hfew := h.few
  by_cases h0 : fs.length = 0
  · have e0 : fs = [] := List.eq_nil_of_length_eq_zero h0
    subst e0
    go_enter Tryz.func16, Tryz.ntmps16
    go_wp2_with (go_at_call 35; refine HN.out.mono ?_; rintro e w1 ⟨oav, capv, rfl, hrow, hb1⟩)
    refine wp_loop_rounds 1 ?_
    rw [rounds_succ]
    go_wp2
    go_end0
    exact ⟨rfl, [], rfl, After.same h hb1⟩
  · have HD : Hid (DiskM w S a size mo fs) := h
    clear h
    go_enter Tryz.func16, Tryz.ntmps16
    go_wp2_with (go_at_call 35; refine HN.out.mono ?_; rintro e w1 ⟨oav, capv, rfl, hrow, hb1⟩; obtain ⟨g, hg, hg1, hg2, hcell⟩ := hrow (by omega); subst hg)
    have HC : Hid (∀ j u, ((fs.map (·.1)).map encStr)[j]? = some u → w1.cell? ⟨g, j, none⟩ = some u) := hcell
    clear hcell hrow
    go_loopw [4, 13] (fun i0 j0 wr => ∃ (j : Nat) (S' : Nat → Prop) (mo' : Option Nat) (fs' : List (List UInt8 × FileE)), j ≤ fs.length ∧ j0 = .int .i64 (j : Int) ∧ i0 = .int .i64 (dirtyN j (abs fs) : Int) ∧
        Hid (DiskM wr S' a size mo' fs' ∧ (∀ k, S' k → S k ∨ w1.heap.size ≤ k) ∧ (∀ k, S k → S' k) ∧ Keeps S w1 wr ∧ abs fs' = crashL ks 0 j (abs fs)))
      (fun _ j0 _ => fs.length - (intOf j0).toNat)
    case atStart =>
      exact ⟨0, S, mo, fs, Nat.zero_le _, rfl, rfl, HD.out.under hb1, fun k hk => .inl hk, fun k hk => hk, Keeps.refl _ _, rfl⟩
    case round =>
      obtain ⟨j, S', mo', fs', hj, rfl, rfl, hI⟩ := hrel
      by_cases hlt : j < fs.length
      · obtain ⟨hd, hs1, hs2, hk3, habs⟩ := hI.out
        have hnames : fs'.map (·.1) = fs.map (·.1) := by
          have e1 := congrArg (List.map AF.name) habs
          rw [crashL_names] at e1
          simpa [abs, absE, Function.comp_def] using e1
        have hlen' : fs'.length = fs.length := by simpa using congrArg List.length hnames
        have hpj : fs'[j]? = some fs'[j] := List.getElem?_eq_getElem (by omega)
        have hat : (abs fs)[j]? = some (absE fs'[j]) := by
          have := crashL_at ks 0 j (abs fs)
          rw [← habs, abs_at, hpj] at this
          exact this.symm
        have hmem : fs'[j] ∈ fs' := List.getElem_mem _
        have hcj : wr.cell? ⟨g, j, none⟩ = some (encStr fs'[j].1) := by
          have hb : wr.heap[g]? = w1.heap[g]? := hk3.block g hg2 (fun hS => by have := HD.out.below g hS; omega)
          refine (World.cell?_of_block (a := ⟨g, j, none⟩) hb).trans (HC.out j _ ?_)
          have e2 : (fs.map (·.1))[j]? = some fs'[j].1 := by rw [← hnames, List.getElem?_map, hpj]; rfl
          rw [List.getElem?_map, e2]; rfl
        have hflook := flook_of_mem hd.keys hmem
        have hnl := hd.names_le _ hmem
        have hown := hd.owns _ hmem
        have hfp : ∀ f, fput fs' fs'[j].1 f = fs'.set j (fs'[j].1, f) := fun f => fput_set _ f fs' j hd.rising (fun p hp => by rw [hpj] at hp; rw [← Option.some.inj hp]) (by omega)
        generalize hpe : fs'[j] = p at *
        obtain ⟨nm, sv, bs, safe⟩ := p
        simp only at hcj hflook hnl hown hfp
        obtain ⟨hB, hsafe⟩ := hown
        obtain ⟨oap, capp, hsv⟩ := hB.shape
        have c1 := hd.c1
        have hl := hd.files.look ⟨nm.toArray⟩ (by simpa [ByteArray.size] using hnl)
        have ev : fval fs' nm = .agg #[.slice oap bs.length capp, .int .i64 (safe : Int)] := by unfold fval; rw [hflook]; show FileE.val _ = _; unfold FileE.val; rw [hsv]
        simp only [List.toList_toArray] at hl
        rw [ev] at hl
        have hcj' : wr.cell? ⟨g, j, none⟩ = some (.string ⟨nm.toArray⟩) := hcj
        have hlb : bs.length ≤ 16777216 := by
          have := hd.at_name nm
          obtain ⟨_, _, _, _, _, h5⟩ := this
          unfold bsAt at h5
          rw [hflook] at h5
          exact h5
        have HI : Hid (DiskM wr S' a size mo' fs' ∧ (∀ k, S' k → S k ∨ w1.heap.size ≤ k) ∧ (∀ k, S k → S' k) ∧ Keeps S w1 wr ∧ abs fs' = crashL ks 0 j (abs fs)) := ⟨hd, hs1, hs2, hk3, habs⟩
        have HAt : Hid ((abs fs)[j]? = some ⟨nm, bs, safe⟩) := hat
        have HFl : Hid (flook fs' nm = some ⟨sv, bs, safe⟩) := hflook
        have HFp : Hid (∀ f, fput fs' nm f = fs'.set j (nm, f)) := hfp
        have HSv : Hid (sv = .slice oap bs.length capp) := hsv
        have HB : Hid (BytesAt wr S' sv bs) := hB
        have hNl : nm.length ≤ maxLen := hnl
        have HPj : Hid (fs'[j]? = some (nm, ⟨sv, bs, safe⟩)) := hpj
        have hdj := dirtyN_le j (abs fs)
        clear hI hd hs1 hs2 hk3 habs hnames hlen' hpj hat hmem hcj hflook hnl hfp hB hsv ev hpe
        by_cases hcl : bs.length = safe
        · have hz : (((bs.length : Nat) : Int) - (safe : Int) == 0) = true := by simp; omega
          have HCl : Hid (bs.length = safe) := hcl
          clear hcl
          go_wp2
          go_roundw
          case rel =>
            obtain ⟨hd, hs1, hs2, hk3, habs⟩ := HI.out
            refine ⟨j + 1, S', mo', fs', by omega, by go_num, by rw [dirtyN_clean j _ _ HAt.out HCl.out], hd.under ((Below.refl _ _).alloc (Nat.le_refl _) _), hs1, hs2, hk3.trans (T := fun _ => False) (Keeps.of_below ((Below.refl _ _).alloc (Nat.le_refl _) _)) (fun x hx => hx.elim), ?_⟩
            rw [crashL_clean ks 0 j _ _ HAt.out HCl.out]
            exact habs
          case measure => simp [intOf]; omega
        · obtain ⟨lo, hlo⟩ : ∃ lo : Nat, lo = bs.length - safe := ⟨_, rfl⟩
          obtain ⟨L, hL⟩ : ∃ L : Nat, L = safe + keptN ks (dirtyN j (abs fs)) lo := ⟨_, rfl⟩
          have hkl := keptN_le ks (dirtyN j (abs fs)) lo
          have hlo1 : ((bs.length : Nat) : Int) - (safe : Int) = (lo : Int) := by omega
          have hL1 : (safe : Int) + (keptN ks (dirtyN j (abs fs)) lo : Int) = (L : Int) := by omega
          have hz : ((lo : Int) == 0) = false := by simp; omega
          have hLb : L ≤ bs.length := by omega
          have hLc : bs.length ≤ capp := by
            rcases HB.out with ⟨h1, h2⟩ | ⟨g', cap', cur, mk, e, _, _, h3, _⟩
            · exfalso; rw [h2] at hcl hsafe; simp at hcl hsafe; omega
            · rw [HSv.out] at e; cases e; exact h3
          obtain ⟨gp, hgp⟩ : ∃ gp, oap = some ⟨gp, 0, none⟩ := by
            rcases HB.out with ⟨h1, h2⟩ | ⟨g', cap', cur, mk, e, _, _, h3, _⟩
            · exfalso; rw [h2] at hcl hsafe; simp at hcl hsafe; omega
            · rw [HSv.out] at e; cases e; exact ⟨_, rfl⟩
          subst hgp
          have HCl : Hid (bs.length ≠ safe) := hcl
          have HL : Hid (L = safe + keptN ks (dirtyN j (abs fs)) (bs.length - safe)) := by show L = _; rw [← hlo]; exact hL
          have HK : Hid (∀ W, (∀ k, k < wr.heap.size → W.heap[k]? = wr.heap[k]?) → Calls Tryz.prog 36 #[.slice oa ks.length cap, .int .i64 (dirtyN j (abs fs) : Int), .int .i64 (lo : Int)] W fun e w' => e = .returned (.int .i64 (keptN ks (dirtyN j (abs fs)) lo : Int)) ∧ w' = W) := by
            intro W hW
            refine kept_any W oa ks cap _ lo ?_ hlen (by omega) (by omega)
            rcases hk with h | ⟨b, off, e, hc⟩
            · exact .inl h
            · by_cases hks : ks = []
              · exact .inl hks
              · refine dIntsAt.kept (w := w) (.inr ⟨b, off, e, hc⟩) (fun b' off' e' => ?_)
                rw [e] at e'; cases e'
                have hpos : 0 < ks.length := List.length_pos_iff.2 hks
                have hbw := World.block_lt_of_cell? w _ (hc 0 hpos).1
                simp only at hbw
                have h1 := hb1.size
                have h2 := HI.out.2.2.2.1
                exact (hW b (by have := h2.size; omega)).trans ((h2.block b (by omega) (hkS hks b off e)).trans (hb1.block b hbw))
          have HCp : Hid (∀ W, Below wr.heap.size wr W → Calls Tryz.prog 38 #[.slice (some ⟨gp, 0, none⟩) L capp] W fun e w' => ∃ v, e = .returned v ∧ (∃ oa l c, v = .slice oa l c) ∧ Below wr.heap.size wr w' ∧
              Calls Tryz.prog 37 #[.pointer (some ⟨a, 0, none⟩), .string ⟨nm.toArray⟩, .agg #[v, .int .i64 (L : Int)]] w' fun e w'' => e = .returned (.tuple #[]) ∧ After S' wr w'' a size (fput fs' nm ⟨v, bs.take L, L⟩)) := by
            intro W hW
            exact crash_copy HI.out.1 hW (n := ⟨nm.toArray⟩) (by simpa [ByteArray.size] using hNl) HSv.out HFl.out L hLb
          have hcap : capp ≤ 9223372036854775807 := by
            rcases HB.out with ⟨h1, h2⟩ | ⟨g', cap', cur, mk, e, _, _, h3, h4, _⟩
            · exfalso; rw [h2] at hcl hsafe; simp at hcl hsafe; omega
            · rw [HSv.out] at e; cases e; unfold maxLen at h4; omega
          clear hcl hlo hL hk hkl
          go_wp2
          go_quiet ((go_at_call 36; exact Calls.quiet_of_same (HK.out _ (fun k hk => Below.heap_alloc wr _ k hk))))
          go_wp2_with (go_at_call 38; refine (HCp.out _ (below_drewN ((Below.refl _ _).alloc (Nat.le_refl _) _) _)).mono ?_; rintro e w2 ⟨v, rfl, ⟨oa2, l2, c2, rfl⟩, hb2, hput⟩; have HPut : Hid (Calls Tryz.prog 37 #[.pointer (some ⟨a, 0, none⟩), .string ⟨nm.toArray⟩, .agg #[.slice oa2 l2 c2, .int .i64 (L : Int)]] w2 fun e w'' => e = .returned (.tuple #[]) ∧ After S' wr w'' a size (fput fs' nm ⟨.slice oa2 l2 c2, bs.take L, L⟩)) := hput; clear hput)
          go_wp2_with (go_at_call 37; refine HPut.out.mono ?_; rintro e w3 ⟨rfl, hA⟩)
          go_roundw
          case rel =>
            obtain ⟨hd, hs1, hs2, hk3, habs⟩ := HI.out
            obtain ⟨S2, mo2, hd2, g1, g2, g3⟩ := hA
            refine ⟨j + 1, S2, mo2, _, by omega, by go_num, ?_, hd2, fun k hk => ?_, fun k hk => g2 k (hs2 k hk), hk3.trans g3 hs1, ?_⟩
            · rw [dirtyN_dirty j _ _ HAt.out HCl.out]; go_num
            · rcases g1 k hk with h | h
              · exact hs1 k h
              · exact .inr (by have := hk3.size; omega)
            · rw [crashL_dirty ks 0 j _ _ HAt.out HCl.out, HFp.out, abs_set, habs, Nat.zero_add]
              unfold crash1 absE
              simp only
              rw [← HL.out]
          case measure => simp [intOf]; omega
      · go_wp2
        go_end0
        have hj' : j = fs.length := by omega
        subst hj'
        obtain ⟨hd, hs1, hs2, hk3, habs⟩ := hI.out
        refine ⟨rfl, fs', habs, S', mo', hd, fun k hk => ?_, hs2, (Keeps.of_below hb1).trans hk3 (fun x hx => .inl hx)⟩
        rcases hs1 k hk with h | h
        · exact .inl h
        · exact .inr (Nat.le_trans hb1.size h)
end Go.Proofs.YtclldpecbocclaaGreat

/- What Clone does. -/
namespace Go.Proofs.YtclldpecbocclaaGreat
open Go.RowKit Go.Maps Go.Sort
set_option maxRecDepth 100000
set_option linter.unusedSimpArgs false
set_option linter.unusedVariables false

theorem sorted_ext : ∀ (l m : List AF), l.Pairwise (fun x y => bytesBefore x.name y.name = true) → m.Pairwise (fun x y => bytesBefore x.name y.name = true) → (∀ x, x ∈ l ↔ x ∈ m) → l = m
  | [], [], _, _, _ => rfl
  | [], y :: s, _, _, h => by have := (h y).2 (by simp); cases this
  | x :: r, [], _, _, h => by have := (h x).1 (by simp); cases this
  | x :: r, y :: s, hl, hm, h => by
    have hl' := List.pairwise_cons.1 hl
    have hm' := List.pairwise_cons.1 hm
    have hxy : x = y := by
      rcases List.mem_cons.1 ((h x).1 (by simp)) with e | hx
      · exact e
      · rcases List.mem_cons.1 ((h y).2 (by simp)) with e | hy
        · exact e.symm
        · have a1 := hm'.1 x hx
          have a2 := hl'.1 y hy
          rw [before_asymm a1] at a2
          cases a2
    subst hxy
    refine congrArg _ (sorted_ext r s hl'.2 hm'.2 (fun z => ?_))
    constructor
    · intro hz
      rcases List.mem_cons.1 ((h z).1 (by simp [hz])) with e | h2
      · exact absurd (by rw [e]) (before_ne (hl'.1 z hz))
      · exact h2
    · intro hz
      rcases List.mem_cons.1 ((h z).2 (by simp [hz])) with e | h2
      · exact absurd (by rw [e]) (before_ne (hm'.1 z hz))
      · exact h2

theorem DiskM.rising_abs {w : World} {S : Nat → Prop} {a size : Nat} {mo : Option Nat} {fs : List (List UInt8 × FileE)} (h : DiskM w S a size mo fs) : (abs fs).Pairwise (fun x y => bytesBefore x.name y.name = true) := by
  unfold abs
  rw [List.pairwise_map]
  exact h.rising

def Ag (fc fs : List (List UInt8 × FileE)) (left : Lit → Bool) : Prop := ∀ x : AF, x ∈ abs fc ↔ (x ∈ abs fs ∧ left (.string x.name) = false)

theorem mem_abs {fs : List (List UInt8 × FileE)} {x : AF} : x ∈ abs fs ↔ ∃ p ∈ fs, absE p = x := by simp [abs]

theorem Ag.step {fc fs : List (List UInt8 × FileE)} {left : Lit → Bool} (h : Ag fc fs left) (hk : fs.Pairwise (fun p q => p.1 ≠ q.1)) {n : List UInt8} {f g : FileE} (hf : (n, f) ∈ fs) (hl : left (.string n) = true) (hg : absE (n, g) = absE (n, f)) :
    Ag (fput fc n g) fs (fun z => left z && !z.sameKey (.string n)) := by
  intro x
  have hone : ∀ p ∈ fs, p.1 = n → p = (n, f) := fun p hp he => by
    have h1 := flook_of_mem hk hp
    have h2 := flook_of_mem hk hf
    simp only at h2
    rw [he, h2] at h1
    exact Prod.ext he (Option.some.inj h1).symm
  rw [mem_abs]
  simp only [sk]
  constructor
  · rintro ⟨p, hp, rfl⟩
    rcases (mem_fput _ _ _ _).1 hp with rfl | ⟨hp, hne⟩
    · refine ⟨mem_abs.2 ⟨(n, f), hf, hg.symm⟩, ?_⟩
      simp [absE]
    · have := (h (absE p)).1 (mem_abs.2 ⟨p, hp, rfl⟩)
      exact ⟨this.1, by simp [this.2]⟩
  · rintro ⟨hx, hl2⟩
    obtain ⟨p, hp, rfl⟩ := mem_abs.1 hx
    by_cases he : p.1 = n
    · have := hone p hp he
      subst this
      exact ⟨(n, g), (mem_fput _ _ _ _).2 (.inl rfl), hg⟩
    · have hne : ((absE p).name == n) = false := by simpa [absE] using he
      rw [hne] at hl2
      simp at hl2
      obtain ⟨q, hq, he2⟩ := mem_abs.1 ((h (absE p)).2 ⟨hx, hl2⟩)
      refine ⟨q, (mem_fput _ _ _ _).2 (.inr ⟨hq, fun e => he ?_⟩), he2⟩
      have := congrArg AF.name he2
      simp only [absE] at this
      rw [← this]; exact e

theorem Ag.fresh {fc fs : List (List UInt8 × FileE)} {left : Lit → Bool} (h : Ag fc fs left) {n : List UInt8} (hl : left (.string n) = true) : ∀ p ∈ fc, p.1 ≠ n := fun p hp e => by
  have := ((h (absE p)).1 (mem_abs.2 ⟨p, hp, rfl⟩)).2
  simp only [absE] at this
  rw [e, hl] at this
  cases this

/-- A round of Clone: what is asked of the callees. -/
theorem clone_copy {w wr W : World} {S Sc : Nat → Prop} {a ca size : Nat} {mo mc : Option Nat} {fs fc : List (List UInt8 × FileE)} (hw : DiskM w S a size mo fs) (hwr : Below w.heap.size w wr) (hc : DiskM wr Sc ca size mc fc) (hW : Below wr.heap.size wr W)
    {n : ByteArray} (hn : n.size ≤ maxLen) {oa : Option Addr} {cap : Nat} {bs : List UInt8} {safe : Nat} (hm : (n.data.toList, (⟨.slice oa bs.length cap, bs, safe⟩ : FileE)) ∈ fs) (hfr : ∀ p ∈ fc, p.1 ≠ n.data.toList) (hroom : bs.length + total fc ≤ size) (hfew : fc.length < 256) :
    Calls Tryz.prog 38 #[.slice oa bs.length cap] W fun e w' => ∃ v, e = .returned v ∧ (∃ oa l c, v = .slice oa l c) ∧ Below W.heap.size W w' ∧
      Calls Tryz.prog 37 #[.pointer (some ⟨ca, 0, none⟩), .string n, .agg #[v, .int .i64 (safe : Int)]] w' fun e w'' => e = .returned (.tuple #[]) ∧ After Sc wr w'' ca size (fput fc n.data.toList ⟨v, bs, safe⟩) ∧ ∀ k, k < W.heap.size → ¬ Sc k → w''.heap[k]? = W.heap[k]? := by
  obtain ⟨hB, hsafe⟩ := hw.owns _ hm
  simp only at hB hsafe
  have hbl : bs.length ≤ 16777216 := by have := hc.small; omega
  have hwW : Below w.heap.size w W := hwr.trans (hW.mono hwr.size)
  have hBW : BytesAt W S (.slice oa bs.length cap) bs := hB.kept (fun _ hk => hk) (fun k hk => hwW.block k (hB.lt k hk).2)
  have hsrc : Src W oa bs ∧ (oa = none → cap = 0) := by
    rcases hB with ⟨e, rfl⟩ | ⟨g, cap', cur, mk, e, _⟩
    · cases e; exact ⟨.inl ⟨rfl, rfl⟩, fun _ => rfl⟩
    · cases e; exact ⟨.inr ⟨g, rfl, fun i hi => hBW.cell i hi⟩, fun e => by cases e⟩
  refine (copied_any W oa cap bs hsrc.1 hbl hsrc.2).mono (fun e w' ⟨v, h1, h2, h3⟩ => ?_)
  have hW' : Below wr.heap.size wr w' := hW.trans (h3.mono hW.size)
  have hshv : ∃ oa l c, v = .slice oa l c := by obtain ⟨oa, c, e⟩ := h2.shape; exact ⟨oa, _, c, e⟩
  refine ⟨v, h1, hshv, h3, ?_⟩
  have hd : DiskM w' (fun k => Sc k ∨ (W.heap.size ≤ k ∧ k < w'.heap.size)) ca size mc fc := (hc.under hW').more (fun k hk => .inl hk) (fun k hk => by
    rcases hk with hk | hk
    · have := hc.below k hk; have := hW'.size; omega
    · exact hk.2)
  have hfd := fdel_of_ne n.data.toList fc hfr
  have := put_any hd n hn ⟨v, bs, safe⟩ (h2.kept (fun k hk => .inr hk) (fun _ _ => rfl)) hsafe
    (fun p hp hne k hk hq => by
      have h4 := ((hc.owns p hp).1.lt k hq).2
      have h5 := (h2.lt k hk).1.1
      have := hW.size
      omega) (by rw [total_fput, hfd]; exact hroom) (by rw [len_fput, hfd]; omega)
  refine this.mono (fun e w'' ⟨h1, h2⟩ => ⟨h1, ?_, fun k hk hS => ?_⟩)
  · refine After.then (Keeps.of_below hW') (fun k hk => ?_) (fun k hk => .inl hk) h2
    rcases hk with hk | hk
    · exact .inl hk
    · exact .inr (by have := hW.size; omega)
  · obtain ⟨_, _, _, _, _, hkp⟩ := h2
    exact (hkp.block k (Nat.lt_of_lt_of_le hk h3.size) (fun h => by rcases h with h | h; exact hS h; omega)).trans (h3.block k hk)

theorem disk_made (w : World) (size : Nat) (hs : size ≤ 16777216) : DiskM (w.alloc (.cells #[.int .i64 (size : Int), .map none] 59)) (fun k => k = w.heap.size) w.heap.size size none [] :=
  ⟨fun k hk => by rw [hk]; simp, rfl, heap_alloc_new w _, rfl, (fun b e => by cases e), (fun p hp => by cases hp), List.Pairwise.nil, Nat.zero_le _, hs, by simp⟩

end Go.Proofs.YtclldpecbocclaaGreat

/- Each call of a disk, said of names, bytes and safe numbers alone. -/
namespace Go.Proofs.YtclldpecbocclaaGreat
open Go.RowKit Go.Maps Go.Sort
set_option maxRecDepth 100000
set_option linter.unusedSimpArgs false
set_option linter.unusedVariables false

def ains (x : AF) : List AF → List AF
  | [] => [x]
  | y :: r => if bytesBefore x.name y.name then x :: y :: r else y :: ains x r
def adel (l : List AF) (n : List UInt8) : List AF := l.filter fun x => !(x.name == n)
def aput (l : List AF) (x : AF) : List AF := ains x (adel l x.name)
def alook (l : List AF) (n : List UInt8) : Option AF := l.find? fun x => x.name == n
def abytes (l : List AF) (n : List UInt8) : List UInt8 := match alook l n with | some x => x.bs | none => []
def asafe (l : List AF) (n : List UInt8) : Nat := match alook l n with | some x => x.safe | none => 0

theorem abs_fins (x : List UInt8 × FileE) : ∀ fs : List (List UInt8 × FileE), abs (fins x fs) = ains (absE x) (abs fs)
  | [] => rfl
  | y :: r => by
    have ih := abs_fins x r
    unfold abs at ih ⊢
    unfold fins
    simp only [List.map_cons, ains]
    by_cases h : bytesBefore x.1 y.1 = true
    · simp only [h, if_true, show bytesBefore (absE x).name (absE y).name = true from h, List.map_cons]
    · have h2 : ¬ bytesBefore (absE x).name (absE y).name = true := h
      simp only [h, h2, Bool.false_eq_true, if_false, List.map_cons, ih]

theorem abs_fdel (n : List UInt8) : ∀ fs : List (List UInt8 × FileE), abs (fdel fs n) = adel (abs fs) n
  | [] => rfl
  | y :: r => by
    have ih := abs_fdel n r
    unfold abs fdel adel at ih ⊢
    simp only [List.filter_cons, List.map_cons, show (absE y).name = y.1 from rfl]
    split <;> simp [ih]

theorem abs_fput (fs : List (List UInt8 × FileE)) (n : List UInt8) (f : FileE) : abs (fput fs n f) = aput (abs fs) ⟨n, f.bs, f.safe⟩ := by
  unfold fput aput
  rw [abs_fins, abs_fdel]
  rfl

theorem alook_abs (n : List UInt8) : ∀ fs : List (List UInt8 × FileE), alook (abs fs) n = (flook fs n).map fun f => ⟨n, f.bs, f.safe⟩
  | [] => rfl
  | y :: r => by
    have ih := alook_abs n r
    unfold alook flook abs at ih ⊢
    simp only [List.map_cons, List.find?_cons, show (absE y).name = y.1 from rfl]
    cases h : (y.1 == n)
    · exact ih
    · simp at h
      simp [absE, h]

theorem abytes_abs (fs : List (List UInt8 × FileE)) (n : List UInt8) : abytes (abs fs) n = bsAt fs n := by
  unfold abytes bsAt
  rw [alook_abs]
  cases flook fs n <;> rfl
theorem asafe_abs (fs : List (List UInt8 × FileE)) (n : List UInt8) : asafe (abs fs) n = safeAt fs n := by
  unfold asafe safeAt
  rw [alook_abs]
  cases flook fs n <;> rfl
theorem asome_abs (fs : List (List UInt8 × FileE)) (n : List UInt8) : (alook (abs fs) n).isSome = (flook fs n).isSome := by
  rw [alook_abs]
  cases flook fs n <;> rfl

/-- A disk with such files. -/
def DiskA (w : World) (S : Nat → Prop) (a size : Nat) (l : List AF) : Prop := ∃ mo fs, DiskM w S a size mo fs ∧ abs fs = l

/-- What a call leaves. -/
def AfterA (S : Nat → Prop) (w w' : World) (a size : Nat) (l : List AF) : Prop :=
  ∃ S', DiskA w' S' a size l ∧ (∀ k, S' k → S k ∨ w.heap.size ≤ k) ∧ (∀ k, S k → S' k) ∧ Keeps S w w'

theorem After.abs' {S : Nat → Prop} {w w' : World} {a size : Nat} {fs : List (List UInt8 × FileE)} {l : List AF} (h : After S w w' a size fs) (e : abs fs = l) : AfterA S w w' a size l := by
  obtain ⟨S', mo', hd, h1, h2, h3⟩ := h
  exact ⟨S', ⟨mo', fs, hd, e⟩, h1, h2, h3⟩

theorem DiskA.under {w w1 : World} {S : Nat → Prop} {a size : Nat} {l : List AF} (h : DiskA w S a size l) (hb : Below w.heap.size w w1) : DiskA w1 S a size l := by
  obtain ⟨mo, fs, hd, e⟩ := h
  exact ⟨mo, fs, hd.under hb, e⟩
theorem DiskA.beside {w w1 : World} {S T : Nat → Prop} {a size : Nat} {l : List AF} (h : DiskA w S a size l) (hk : Keeps T w w1) (hd : ∀ k, S k → ¬ T k) : DiskA w1 S a size l := by
  obtain ⟨mo, fs, h, e⟩ := h
  exact ⟨mo, fs, h.beside hk hd, e⟩
theorem DiskA.below {w : World} {S : Nat → Prop} {a size : Nat} {l : List AF} (h : DiskA w S a size l) : ∀ k, S k → k < w.heap.size := by
  obtain ⟨mo, fs, h, e⟩ := h
  exact h.below
theorem DiskA.facts {w : World} {S : Nat → Prop} {a size : Nat} {l : List AF} (h : DiskA w S a size l) : totalA l ≤ size ∧ size ≤ 16777216 ∧ l.length ≤ 256 ∧ l.Pairwise (fun x y => bytesBefore x.name y.name = true) ∧ (∀ x ∈ l, x.safe ≤ x.bs.length ∧ x.name.length ≤ maxLen) := by
  obtain ⟨mo, fs, h, rfl⟩ := h
  refine ⟨by rw [total_abs]; exact h.room, h.small, by rw [abs_length]; exact h.few, h.rising_abs, fun x hx => ?_⟩
  obtain ⟨p, hp, rfl⟩ := mem_abs.1 hx
  exact ⟨(h.owns p hp).2, h.names_le p hp⟩
theorem AfterA.same {S : Nat → Prop} {w w1 : World} {a size : Nat} {l : List AF} (h : DiskA w S a size l) (hb : Below w.heap.size w w1) : AfterA S w w1 a size l :=
  ⟨S, h.under hb, fun _ hk => .inl hk, fun _ hk => hk, Keeps.of_below hb⟩

theorem newA (n : Nat) (w : World) (h1 : 1 ≤ n) (h2 : n ≤ 16777216) :
    Calls Tryz.prog 5 #[.int .i64 (n : Int)] w fun e w' => e = .returned (.tuple #[.pointer (some ⟨w.heap.size, 0, none⟩), .int .i64 0]) ∧ DiskA w' (fun k => k = w.heap.size) w.heap.size n [] ∧ Below w.heap.size w w' :=
  (new_yes (n : Int) w (by omega) (by omega)).mono (fun e w' ⟨he, hw⟩ => by
    subst hw
    exact ⟨he, ⟨none, [], disk_made w n h2, rfl⟩, (Below.refl _ _).alloc (Nat.le_refl _) _⟩)

def admE (l : List AF) (n : ByteArray) : Nat := if nameB n = true then (if (alook l n.data.toList).isSome = true ∨ l.length < 256 then 0 else 3) else 1
def appE (size : Nat) (l : List AF) (n b : ByteArray) : Nat := if admE l n = 0 then (if b.size ≤ size - totalA l then 0 else 7) else admE l n
def appL (size : Nat) (l : List AF) (n b : ByteArray) : List AF :=
  if admE l n = 0 then aput l ⟨n.data.toList, abytes l n.data.toList ++ b.data.toList.take (min b.size (size - totalA l)), asafe l n.data.toList⟩ else l

theorem admE_zero {fs : List (List UInt8 × FileE)} {n : ByteArray} (h : admE (abs fs) n = 0) : nameB n = true ∧ ((flook fs n.data.toList).isSome = true ∨ fs.length < 256) := by
  unfold admE at h
  rw [asome_abs, abs_length] at h
  split at h
  · split at h
    · exact ⟨by assumption, by assumption⟩
    · cases h
  · cases h

/-- admit, whatever the name. -/
theorem admit_any {w : World} {S : Nat → Prop} {a size : Nat} {mo : Option Nat} {fs : List (List UInt8 × FileE)} (h : DiskM w S a size mo fs) (n : ByteArray) (hn : n.size ≤ maxLen) :
    Calls Tryz.prog 50 #[.pointer (some ⟨a, 0, none⟩), .string n] w fun e w' => e = .returned (.int .i64 (admE (abs fs) n : Int)) ∧ Below w.heap.size w w' := by
  unfold admE
  rw [asome_abs, abs_length]
  cases hb : nameB n with
  | false => exact (admit_bad n hn hb).mono (fun e w' ⟨h1, h2⟩ => by subst h2; exact ⟨by rw [h1]; rfl, Below.refl _ _⟩)
  | true =>
    cases hs : (flook fs n.data.toList).isSome with
    | true => exact (admit_there h n hn hb hs).mono (fun e w' ⟨h1, h2⟩ => ⟨by rw [h1]; simp, h2⟩)
    | false =>
      refine (admit_new h n hn hb hs).mono (fun e w' ⟨h1, h2⟩ => ⟨?_, h2⟩)
      rw [h1]
      by_cases h3 : fs.length < 256 <;> simp [h3]

def repE (size : Nat) (l : List AF) (n b : ByteArray) : Nat := if admE l n = 0 then (if b.size ≤ size - totalA l + (abytes l n.data.toList).length then 0 else 7) else admE l n
def repL (size : Nat) (l : List AF) (n b : ByteArray) : List AF :=
  if admE l n = 0 ∧ b.size ≤ size - totalA l + (abytes l n.data.toList).length then aput l ⟨n.data.toList, b.data.toList, b.size⟩ else l

def synE (l : List AF) (n : ByteArray) : Nat := if (alook l n.data.toList).isSome = true then 0 else 8
def synL (l : List AF) (n : ByteArray) : List AF := if (alook l n.data.toList).isSome = true then aput l ⟨n.data.toList, abytes l n.data.toList, (abytes l n.data.toList).length⟩ else l

theorem crashA {w : World} {S : Nat → Prop} {a size : Nat} {l : List AF} (h : DiskA w S a size l) (oa : Option Addr) (ks : List Int) (cap : Nat) (hk : dIntsAt w oa ks) (hlen : ks.length ≤ maxLen) (hkS : ks ≠ [] → ∀ b off, oa = some ⟨b, off, none⟩ → ¬ S b) :
    Calls Tryz.prog 16 #[.pointer (some ⟨a, 0, none⟩), .slice oa ks.length cap] w fun e w' => e = .returned (.tuple #[]) ∧ AfterA S w w' a size (crashL ks 0 l.length l) := by
  obtain ⟨mo, fs, hd, rfl⟩ := h
  refine (crash_any hd oa ks cap hk hlen hkS).mono (fun e w' ⟨he, fs', hfs, hA⟩ => ⟨he, hA.abs' ?_⟩)
  rw [hfs, abs_length]

theorem readA {w : World} {S : Nat → Prop} {a size : Nat} {l : List AF} (h : DiskA w S a size l) (n : ByteArray) (hn : n.size ≤ maxLen) :
    Calls Tryz.prog 55 #[.pointer (some ⟨a, 0, none⟩), .string n] w fun e w' => e = .returned (.tuple #[.string (strOf (abytes l n.data.toList)), .int .i64 (synE l n : Int)]) ∧ Below w.heap.size w w' := by
  obtain ⟨mo, fs, hd, rfl⟩ := h
  unfold synE
  rw [asome_abs, abytes_abs]
  cases hs : (flook fs n.data.toList).isSome with
  | true => exact (read_yes hd n hn hs).mono (fun e w' ⟨he, hb⟩ => ⟨by rw [he]; rfl, hb⟩)
  | false =>
    refine (read_no hd n hn hs).mono (fun e w' ⟨he, hb⟩ => ⟨?_, hb⟩)
    have e1 : bsAt fs n.data.toList = [] := by
      unfold bsAt
      cases hf : flook fs n.data.toList with
      | none => rfl
      | some f => rw [hf] at hs; cases hs
    rw [he, e1]
    rfl

theorem sizeA {w : World} {S : Nat → Prop} {a size : Nat} {l : List AF} (h : DiskA w S a size l) (n : ByteArray) (hn : n.size ≤ maxLen) :
    Calls Tryz.prog 45 #[.pointer (some ⟨a, 0, none⟩), .string n] w fun e w' => e = .returned (.int .i64 ((abytes l n.data.toList).length : Int)) ∧ w' = w := by
  obtain ⟨mo, fs, hd, rfl⟩ := h
  rw [abytes_abs]
  exact size_any hd n hn

theorem freeA {w : World} {S : Nat → Prop} {a size : Nat} {l : List AF} (h : DiskA w S a size l) :
    Calls Tryz.prog 46 #[.pointer (some ⟨a, 0, none⟩)] w fun e w' => e = .returned (.int .i64 ((size - totalA l : Nat) : Int)) ∧ Below w.heap.size w w' := by
  obtain ⟨mo, fs, hd, rfl⟩ := h
  rw [total_abs]
  exact free_any hd

theorem namesA {w : World} {S : Nat → Prop} {a size : Nat} {l : List AF} (h : DiskA w S a size l) :
    Calls Tryz.prog 35 #[.pointer (some ⟨a, 0, none⟩)] w fun e w' => ∃ oa cap, e = .returned (.slice oa l.length cap) ∧ (0 < l.length → ∃ g, oa = some ⟨g, 0, none⟩ ∧ w.heap.size ≤ g ∧ g < w'.heap.size ∧ ∀ j x, l[j]? = some x → w'.cell? ⟨g, j, none⟩ = some (.string (strOf x.name))) ∧ Below w.heap.size w w' := by
  obtain ⟨mo, fs, hd, rfl⟩ := h
  refine (names_any hd).mono (fun e w' ⟨v, h1, h2, h3⟩ => ?_)
  obtain ⟨oa, cap, rfl, hg⟩ := row_shape h2
  rw [abs_length]
  refine ⟨oa, cap, h1, fun h0 => ?_, h3⟩
  obtain ⟨g, e1, e2, e3, e4⟩ := hg h0
  refine ⟨g, e1, e2, e3, fun j x hx => e4 j _ ?_⟩
  rw [abs_at] at hx
  obtain ⟨p, hp, rfl⟩ := Option.map_eq_some_iff.1 hx
  rw [List.getElem?_map, List.getElem?_map, hp]
  rfl
end Go.Proofs.YtclldpecbocclaaGreat

/- Replace of the disk. -/
namespace Go.Proofs.YtclldpecbocclaaGreat
open Go.RowKit Go.Maps Go.Sort
set_option maxRecDepth 100000
set_option linter.unusedSimpArgs false
set_option linter.unusedVariables false

set_option maxHeartbeats 800000 in
theorem replace_ok {w : World} {S : Nat → Prop} {a size : Nat} {mo : Option Nat} {fs : List (List UInt8 × FileE)} (h : DiskM w S a size mo fs) (n b : ByteArray) (hn : n.size ≤ maxLen) (hname : nameB n = true)
    (hadm : (flook fs n.data.toList).isSome = true ∨ fs.length < 256) (hfit : b.size ≤ size - total fs + (bsAt fs n.data.toList).length) :
    Calls Tryz.prog 29 #[.pointer (some ⟨a, 0, none⟩), .string n, .string b] w fun e w' => e = .returned (.int .i64 0) ∧ ∃ f : FileE, f.bs = b.data.toList ∧ f.safe = b.size ∧ After S w w' a size (fput fs n.data.toList f) := by
  have hbsz : (b.data.toList).length = b.size := rfl
  have hsm := h.small
  have hroom := h.room
  have htl := total_fdel_le fs n.data.toList
  rw [lenAt_eq] at htl
  have HA := admit_ok h n hn hname hadm
  have HF : Hid (∀ W, Below w.heap.size w W → Calls Tryz.prog 46 #[.pointer (some ⟨a, 0, none⟩)] W fun e w' => e = .returned (.int .i64 ((size - total fs : Nat) : Int)) ∧ Below w.heap.size w w') := fun W hW =>
    (free_any (h.under hW)).mono (fun e w' ⟨h1, h2⟩ => ⟨h1, hW.trans (h2.mono hW.size)⟩)
  have HZ : Hid (∀ W, Below w.heap.size w W → Calls Tryz.prog 45 #[.pointer (some ⟨a, 0, none⟩), .string n] W fun e w' => e = .returned (.int .i64 ((bsAt fs n.data.toList).length : Int)) ∧ w' = W) := fun W hW => size_any (h.under hW) n hn
  have HP : Hid (∀ W, Below w.heap.size w W → Calls Tryz.prog 37 #[.pointer (some ⟨a, 0, none⟩), .string n, .agg #[.slice (some ⟨W.heap.size, 0, none⟩) b.size (grownCap W b.size 0 5), .int .i64 (b.size : Int)]] (Lib.bytesWorld W 5 b)
      fun e w' => e = .returned (.tuple #[]) ∧ ∃ f : FileE, f.bs = b.data.toList ∧ f.safe = b.size ∧ After S w w' a size (fput fs n.data.toList f)) := by
    intro W hW
    have hb1 := conv_below W b
    have hW1 : Below w.heap.size w (Lib.bytesWorld W 5 b) := hW.trans (hb1.mono hW.size)
    have hd : DiskM (Lib.bytesWorld W 5 b) (fun k => S k ∨ k = W.heap.size) a size mo fs := (h.under hW1).more (fun k hk => .inl hk) (fun k hk => by
      have hs := Lib.bytesWorld_size W 5 b
      have := hW.size
      rcases hk with hk | rfl
      · have := h.below k hk; omega
      · omega)
    have := put_any hd n hn ⟨.slice (some ⟨W.heap.size, 0, none⟩) b.size (grownCap W b.size 0 5), b.data.toList, b.size⟩ (bytesAt_conv W b (by omega) _ (.inr rfl)) (Nat.le_refl _)
      (fun p hp _ k hk hq => by
        have h1 := ((h.owns p hp).1.lt k hq).2
        have h2 := hW.size
        simp [Value.ownBlock] at hk
        omega) (by rw [total_fput]; simp only; omega) (few_fput _ hadm h.few)
    refine this.mono (fun e w' ⟨h1, h2⟩ => ⟨h1, ⟨.slice (some ⟨W.heap.size, 0, none⟩) b.size (grownCap W b.size 0 5), b.data.toList, b.size⟩, rfl, rfl, ?_⟩)
    refine After.then (Keeps.of_below hW1) (fun k hk => ?_) (fun k hk => .inl hk) h2
    rcases hk with hk | rfl
    · exact .inl hk
    · exact .inr hW.size
  have hcv := fun W => Lib.run_convert_string_bytes (P := Tryz.prog) W 9 74 5 b Tryz.underlying9 Tryz.underlying74 Tryz.underlying5
  have hlt : ¬ (((size - total fs : Nat) : Int) + ((bsAt fs n.data.toList).length : Int) < (b.size : Int)) := by omega
  have HA2 : Hid (Calls Tryz.prog 50 #[.pointer (some ⟨a, 0, none⟩), .string n] w fun e w' => e = .returned (.int .i64 0) ∧ Below w.heap.size w w') := HA
  have hl1 : (bsAt fs n.data.toList).length ≤ 16777216 := by omega
  have hl2 : size - total fs ≤ 16777216 := by omega
  clear h HA
  go_enter Tryz.func29, Tryz.ntmps29
  go_wp2_with (go_at_call 50; refine HA2.out.mono ?_; rintro e w1 ⟨rfl, hb1⟩)
  go_wp2_with (go_at_call 46; refine (HF.out _ hb1).mono ?_; rintro e w2 ⟨rfl, hb2⟩)
  go_wp2_with (go_at_call 45; refine (HZ.out _ hb2).mono ?_; rintro e w3 ⟨rfl, rfl⟩)
  go_wp2_with (go_at_call 37; refine (HP.out _ hb2).mono ?_; rintro e w4 ⟨rfl, hA⟩)
  go_ret
  exact ⟨rfl, hA⟩

set_option maxHeartbeats 400000 in
theorem replace_full {w : World} {S : Nat → Prop} {a size : Nat} {mo : Option Nat} {fs : List (List UInt8 × FileE)} (h : DiskM w S a size mo fs) (n b : ByteArray) (hn : n.size ≤ maxLen) (hb : b.size ≤ maxLen) (hname : nameB n = true)
    (hadm : (flook fs n.data.toList).isSome = true ∨ fs.length < 256) (hfit : size - total fs + (bsAt fs n.data.toList).length < b.size) :
    Calls Tryz.prog 29 #[.pointer (some ⟨a, 0, none⟩), .string n, .string b] w fun e w' => e = .returned (.int .i64 7) ∧ Below w.heap.size w w' := by
  unfold maxLen at hb
  have hsm := h.small
  have hroom := h.room
  have htl := total_fdel_le fs n.data.toList
  rw [lenAt_eq] at htl
  have HA : Hid (Calls Tryz.prog 50 #[.pointer (some ⟨a, 0, none⟩), .string n] w fun e w' => e = .returned (.int .i64 0) ∧ Below w.heap.size w w') := admit_ok h n hn hname hadm
  have HF : Hid (∀ W, Below w.heap.size w W → Calls Tryz.prog 46 #[.pointer (some ⟨a, 0, none⟩)] W fun e w' => e = .returned (.int .i64 ((size - total fs : Nat) : Int)) ∧ Below w.heap.size w w') := fun W hW =>
    (free_any (h.under hW)).mono (fun e w' ⟨h1, h2⟩ => ⟨h1, hW.trans (h2.mono hW.size)⟩)
  have HZ : Hid (∀ W, Below w.heap.size w W → Calls Tryz.prog 45 #[.pointer (some ⟨a, 0, none⟩), .string n] W fun e w' => e = .returned (.int .i64 ((bsAt fs n.data.toList).length : Int)) ∧ w' = W) := fun W hW => size_any (h.under hW) n hn
  have hlt : (((size - total fs : Nat) : Int) + ((bsAt fs n.data.toList).length : Int) < (b.size : Int)) := by omega
  have hl1 : (bsAt fs n.data.toList).length ≤ 16777216 := by omega
  have hl2 : size - total fs ≤ 16777216 := by omega
  clear h
  go_enter Tryz.func29, Tryz.ntmps29
  go_wp2_with (go_at_call 50; refine HA.out.mono ?_; rintro e w1 ⟨rfl, hb1⟩)
  go_wp2_with (go_at_call 46; refine (HF.out _ hb1).mono ?_; rintro e w2 ⟨rfl, hb2⟩)
  go_wp2_with (go_at_call 45; refine (HZ.out _ hb2).mono ?_; rintro e w3 ⟨rfl, rfl⟩)
  go_ret
  exact ⟨rfl, hb2⟩

set_option maxHeartbeats 400000 in
theorem replace_not {w : World} {S : Nat → Prop} {a size : Nat} {mo : Option Nat} {fs : List (List UInt8 × FileE)} (h : DiskM w S a size mo fs) (n b : ByteArray) (hn : n.size ≤ maxLen) (hE : admE (abs fs) n ≠ 0) :
    Calls Tryz.prog 29 #[.pointer (some ⟨a, 0, none⟩), .string n, .string b] w fun e w' => e = .returned (.int .i64 (admE (abs fs) n : Int)) ∧ Below w.heap.size w w' := by
  have HA : Hid (Calls Tryz.prog 50 #[.pointer (some ⟨a, 0, none⟩), .string n] w fun e w' => e = .returned (.int .i64 (admE (abs fs) n : Int)) ∧ Below w.heap.size w w') := admit_any h n hn
  generalize admE (abs fs) n = E at *
  have hne : (((E : Nat) : Int) != 0) = true := by simp; omega
  clear h hE
  go_enter Tryz.func29, Tryz.ntmps29
  go_wp2_with (go_at_call 50; refine HA.out.mono ?_; rintro e w1 ⟨rfl, hb1⟩)
  go_ret
  exact ⟨rfl, hb1⟩

theorem replaceA {w : World} {S : Nat → Prop} {a size : Nat} {l : List AF} (h : DiskA w S a size l) (n b : ByteArray) (hn : n.size ≤ maxLen) (hb : b.size ≤ maxLen) :
    Calls Tryz.prog 29 #[.pointer (some ⟨a, 0, none⟩), .string n, .string b] w fun e w' => e = .returned (.int .i64 (repE size l n b : Int)) ∧ AfterA S w w' a size (repL size l n b) := by
  obtain ⟨mo, fs, hd, rfl⟩ := h
  unfold repE repL
  rw [total_abs, abytes_abs]
  by_cases hE : admE (abs fs) n = 0
  · obtain ⟨h1, h2⟩ := admE_zero hE
    rw [if_pos hE]
    by_cases hf : b.size ≤ size - total fs + (bsAt fs n.data.toList).length
    · rw [if_pos hf, if_pos ⟨hE, hf⟩]
      refine (replace_ok hd n b hn h1 h2 hf).mono (fun e w' ⟨he, f, hf1, hf2, hA⟩ => ⟨by rw [he]; rfl, hA.abs' ?_⟩)
      rw [abs_fput, hf1, hf2]
    · rw [if_neg hf, if_neg (fun h => hf h.2)]
      exact (replace_full hd n b hn hb h1 h2 (by omega)).mono (fun e w' ⟨he, hb⟩ => ⟨by rw [he]; rfl, AfterA.same ⟨mo, fs, hd, rfl⟩ hb⟩)
  · rw [if_neg hE, if_neg (fun h => hE h.1)]
    exact (replace_not hd n b hn hE).mono (fun e w' ⟨he, hb⟩ => ⟨he, AfterA.same ⟨mo, fs, hd, rfl⟩ hb⟩)

end Go.Proofs.YtclldpecbocclaaGreat

