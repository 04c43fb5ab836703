/- shorten: what Delete leaves of a producer's notes. -/
import Derived.Test.YtkdbclnnmpnfgaaH9
namespace Go.Proofs.Ytkdbclnnmpnfgaa
open Go.RowKit Go.Maps
set_option maxRecDepth 100000
set_option linter.unusedSimpArgs false
set_option linter.unusedVariables false

theorem short_eq {l : List Nt} {N : Int} {r f : Nat} (h : HalfAt l N r) (hl : LOk l) (hf : f ≤ r) (h5 : r - f ≤ 5) (hs : ∀ (i : Nat) x z, f ≤ i → i < r → l[i]? = some x → l[r - 1]? = some z → x.ep = z.ep)
    (he : f = 0 ∨ r - f = 5 ∨ ∃ x z, l[f - 1]? = some x ∧ l[r - 1]? = some z ∧ x.ep ≠ z.ep) : shortL N l = l.drop f := by
  unfold shortL
  rw [h.cut hl, h.rest hl]
  have hr := h.le
  have hlen : (l.take r).length = r := by rw [List.length_take]; omega
  have hlast : ∀ z, 0 < r → l[r - 1]? = some z → lastEp (l.take r) = z.ep := fun z h0 hz => by
    unfold lastEp
    rw [hlen, List.getElem?_take, if_pos (by omega), hz]
  have hk : keepL (l.take r) = (l.take r).drop f := by
    refine keepL_eq (hl.sub (List.take_sublist _ _)) f (by omega) (by omega) (fun i x hi hx => ?_) ?_
    · rw [List.getElem?_take] at hx
      split at hx
      · rename_i hir
        have hz : l[r - 1]? = some l[r - 1] := List.getElem?_eq_getElem (by omega)
        rw [hlast _ (by omega) hz]
        exact hs i x _ hi hir hx hz
      · cases hx
    · rcases he with e | e | ⟨x, z, hx, hz, hne⟩
      · exact .inl e
      · exact .inr (.inl (by omega))
      · by_cases f0 : f = 0
        · exact .inl f0
        · refine .inr (.inr ⟨x, ?_, ?_⟩)
          · rw [List.getElem?_take, if_pos (by omega)]; exact hx
          · rw [hlast z (by omega) hz]; exact hne
  rw [hk, List.drop_take]
  have e : l.drop r = (l.drop f).drop (r - f) := by rw [List.drop_drop, Nat.add_sub_cancel' hf]
  rw [e, List.take_append_drop]

def ShRel (l : List Nt) (w wr : World) (r f : Nat) : Prop := (∀ (i : Nat) x z, f ≤ i → i < r → l[i]? = some x → l[r - 1]? = some z → x.ep = z.ep) ∧ Below w.heap.size w wr
theorem ShRel.drewN {l : List Nt} {w wr : World} {r f : Nat} (h : ShRel l w wr r f) (n : Nat) : ShRel l w (wr.drewN n) r f := ⟨h.1, below_drewN h.2 n⟩
theorem ShRel.drew {l : List Nt} {w wr : World} {r f : Nat} (h : ShRel l w wr r f) : ShRel l w wr.drew r f := ⟨h.1, h.2.drew⟩

set_option maxHeartbeats 6400000 in
theorem short41 {w : World} {v : Value} {l : List Nt} (h : NL w v l) (hl : LOk l) (hne : l ≠ []) (hlen : l.length ≤ 100000) (N : Int) :
    Calls Try.prog 41 #[v, .int .i64 N] w fun e w' => Shorter w w' v (shortL N l) e := by
  have H39 := hid (ahead_any h hlen N)
  have HN := hid h
  have HL := hid hl
  obtain ⟨oa, cap, rfl, hcap, hcm, hnn, hoa⟩ := h.shape
  obtain ⟨g, rfl⟩ := hoa (List.length_pos_iff.2 hne)
  clear h hl hoa hnn hne
  go_enter Try.func41, Try.ntmps41
  go_wp2_with fail
  refine H39.out.mono ?_
  rintro e w1 ⟨r, rfl, hr, hb1⟩
  have hrl := hr.le
  have HR := hid hr
  have HB1 := hid hb1
  clear hr hb1 H39
  go_wp2_with fail
  go_loopg [6] r (fun kx s6 wr => ∃ f : Nat, f ≤ kx ∧ f ≤ r ∧ s6 = .int .i64 (f : Int) ∧ r - f ≤ 5 ∧ Hid (ShRel l w wr r f))
  case atStart => exact ⟨r, Nat.le_refl _, Nat.le_refl _, rfl, by omega, (fun i x z h1 h2 => by omega), HB1.out⟩
  case round =>
    obtain ⟨f, hfk, hfr, rfl, hf5, HI⟩ := hrel
    by_cases f0 : f = 0
    · subst f0
      have HF : Hid (shortL N l = l) := by show _ = _; rw [short_eq HR.out HL.out (by omega) hf5 HI.out.1 (.inl rfl)]; rfl
      have hd : decide ((0 : Int) < 0) = false := by decide
      go_wp2_with fail
      go_quiet (fail)
      go_wp2_with fail
      go_ret
      refine ⟨.slice (some ⟨g, 0, none⟩) l.length cap, rfl, ?_, fun k hk => .inl hk, ⟨some ⟨g, 0, none⟩, cap, by rw [HF.out]⟩, ?_⟩
      · rw [HF.out]
        refine HN.out.under ?_
        first | exact HI.out.2 | exact HI.out.2.drew | exact below_drewN HI.out.2 _
      · first | exact HI.out.2 | exact HI.out.2.drew | exact below_drewN HI.out.2 _
    · obtain ⟨f', hf'⟩ : ∃ f', f = f' + 1 := ⟨f - 1, by omega⟩
      subst hf'
      obtain ⟨r', hr'⟩ : ∃ r', r = r' + 1 := ⟨r - 1, by omega⟩
      subst hr'
      have hfl : f' < l.length := by omega
      have hrl2 : r' < l.length := by omega
      have hx : l[f']? = some l[f'] := List.getElem?_eq_getElem hfl
      have hz : l[r']? = some l[r'] := List.getElem?_eq_getElem hrl2
      have HX := hid hx
      have HZ := hid hz
      obtain ⟨r0, r1, r2, r3⟩ := (HN.out.under HI.out.2).at_ _ _ hx
      obtain ⟨s0, s1, s2, s3⟩ := (HN.out.under HI.out.2).at_ _ _ hz
      generalize l[f'] = X at *
      generalize l[r'] = Z at *
      clear hx hz r1 r2 r3 s1 s2 s3
      have hgt : (0 : Int) < (f' : Int) + 1 := by omega
      have a3 : IntKind.i64.wrap ((f' : Int) + 1 - 1) = (f' : Int) := by rw [IntWalk.i64_in _ (by omega)]; omega
      have a4 : IntKind.i64.wrap (f' : Int) = (f' : Int) := IntWalk.i64_in _ (by omega)
      have a5 : (f' : Int) < (l.length : Int) := by omega
      have b3 : IntKind.i64.wrap ((r' : Int) + 1 - 1) = (r' : Int) := by rw [IntWalk.i64_in _ (by omega)]; omega
      have b4 : IntKind.i64.wrap (r' : Int) = (r' : Int) := IntWalk.i64_in _ (by omega)
      have b5 : (r' : Int) < (l.length : Int) := by omega
      have a6 : (f' : Int) + 1 - 1 = (f' : Int) := by omega
      have b6 : (r' : Int) + 1 - 1 = (r' : Int) := by omega
      obtain ⟨d, hd⟩ : ∃ d : Nat, (r' : Int) + 1 - ((f' : Int) + 1) = (d : Int) := ⟨r' - f', by omega⟩
      have hd2 : d = r' - f' := by omega
      have hd3 : IntKind.i64.wrap (d : Int) = (d : Int) := IntWalk.i64_in _ (by omega)
      have HD2 := hid hd2
      have hdw : IntKind.i64.wrap ((r' : Int) + 1 - ((f' : Int) + 1)) = (d : Int) := by rw [hd]; exact hd3
      clear hd2
      by_cases h5 : d < 5
      · have h5' : (d : Int) < 5 := by omega
        by_cases heq : X.ep = Z.ep
        · rw [heq] at r0
          have HE := hid heq
          clear heq
          go_wp2_with fail
          go_quiet (fail)
          go_wp2_with fail
          go_roundg f'
          case measure => omega
          case rel =>
            have HJ : Hid (ShRel l w wr (r' + 1) f') := ⟨fun i x z h1 h2 hxx hzz => by
              rcases Nat.eq_or_lt_of_le h1 with e | e
              · subst e
                rw [HX.out] at hxx
                rw [show r' + 1 - 1 = r' by omega, HZ.out] at hzz
                cases hxx; cases hzz; exact HE.out
              · exact HI.out.1 i x z (by omega) h2 hxx hzz, HI.out.2⟩
            exact ⟨f', Nat.le_refl _, by omega, by go_num, by have := HD2.out; omega, by first | exact HJ.out | exact HJ.out.drew | exact HJ.out.drewN _⟩
        · have HF : Hid (shortL N l = l.drop (f' + 1)) := by show _ = _; exact short_eq HR.out HL.out (by omega) hf5 HI.out.1 (.inr (.inr ⟨X, Z, HX.out, HZ.out, heq⟩))
          have hq : (X.ep == Z.ep) = false := by simpa using heq
          have hq2 : decide (X.ep = Z.ep) = false := by simpa using heq
          have HCl := hid (fun (W : World) (hW : Below w.heap.size w W) => clone_any (HN.out.under hW) hlen (f' + 1) (cap - (f' + 1)) (by omega))
          have hsl : (f' : Int) + 1 ≤ (l.length : Int) := by omega
          have hfr2 : f' + 1 < cap := by
            have h1 : f' ≠ r' := fun e => by subst e; have := HX.out.symm.trans HZ.out; exact heq (by rw [Option.some.inj this])
            omega
          go_wp2_with fail
          go_quiet (fail)
          go_wp2_with fail
          all_goals first
            | (exfalso; omega)
            | skip
          refine (HCl.out _ (by first | exact HI.out.2 | exact HI.out.2.drew | exact below_drewN HI.out.2 _)).mono ?_
          rintro e w3 ⟨v', rfl, hn3, ho3, hb3⟩
          obtain ⟨oa3, cap3, rfl, _⟩ := hn3.shape
          have HN3 := hid hn3
          clear hn3
          have HE3 : Hid ((l.drop (f' + 1)).length = l.length - (f' + 1)) := by show _ = _; rw [List.length_drop]
          rw [HE3.out] at HN3 ho3 ⊢
          go_wp2_with fail
          go_ret
          have hbw : Below w.heap.size w w3 := by
            first | exact HI.out.2.trans (hb3.mono HI.out.2.size) | exact HI.out.2.drew.trans (hb3.mono HI.out.2.size) | exact (below_drewN HI.out.2 _).trans (hb3.mono HI.out.2.size)
          refine ⟨.slice oa3 (l.length - (f' + 1)) cap3, rfl, by rw [HF.out]; exact HN3.out, fun k hk => .inr ?_, ⟨oa3, cap3, by rw [HF.out, HE3.out]⟩, hbw⟩
          have h1 := ho3 k hk
          have h2 := HI.out.2.size
          first | omega | exact Nat.le_trans h2 h1
      · have h5' : ¬ (d : Int) < 5 := by omega
        have h5'' : decide ((d : Int) < 5) = false := by simp; omega
        have HF : Hid (shortL N l = l.drop (f' + 1)) := by show _ = _; exact short_eq HR.out HL.out (by omega) hf5 HI.out.1 (.inr (.inl (by have := HD2.out; omega)))
        have HCl := hid (fun (W : World) (hW : Below w.heap.size w W) => clone_any (HN.out.under hW) hlen (f' + 1) (cap - (f' + 1)) (by omega))
        have hsl : (f' : Int) + 1 ≤ (l.length : Int) := by omega
        go_wp2_with fail
        go_quiet (fail)
        go_wp2_with fail
        all_goals first
          | (exfalso; omega)
          | skip
        refine (HCl.out _ (by first | exact HI.out.2 | exact HI.out.2.drew | exact below_drewN HI.out.2 _)).mono ?_
        rintro e w3 ⟨v', rfl, hn3, ho3, hb3⟩
        obtain ⟨oa3, cap3, rfl, _⟩ := hn3.shape
        have HN3 := hid hn3
        clear hn3
        have HE3 : Hid ((l.drop (f' + 1)).length = l.length - (f' + 1)) := by show _ = _; rw [List.length_drop]
        rw [HE3.out] at HN3 ho3 ⊢
        go_wp2_with fail
        go_ret
        have hbw : Below w.heap.size w w3 := by
          first | exact HI.out.2.trans (hb3.mono HI.out.2.size) | exact HI.out.2.drew.trans (hb3.mono HI.out.2.size) | exact (below_drewN HI.out.2 _).trans (hb3.mono HI.out.2.size)
        refine ⟨.slice oa3 (l.length - (f' + 1)) cap3, rfl, by rw [HF.out]; exact HN3.out, fun k hk => .inr ?_, ⟨oa3, cap3, by rw [HF.out, HE3.out]⟩, hbw⟩
        have h1 := ho3 k hk
        have h2 := HI.out.2.size
        first | omega | exact Nat.le_trans h2 h1
end Go.Proofs.Ytkdbclnnmpnfgaa

/- turn: each producer's notes become others; Cut, Delete, New. -/
namespace Go.Proofs.Ytkdbclnnmpnfgaa
open Go.RowKit Go.Maps
set_option maxRecDepth 100000
set_option linter.unusedSimpArgs false
set_option linter.unusedVariables false

theorem of_at {fs : FM} (n : Int) (v : Value) (hat : ∀ zd, (dmap fs).atKey (.int .i64 n) zd = .held v) : ∃ e, (n, e) ∈ fs ∧ e.sv = v := by
  have h1 := hat .nil
  unfold DataW.atKey dmap at h1
  simp only [find_dmap] at h1
  cases hf : fs.find? (fun p => p.1 == n) with
  | none => rw [hf] at h1; cases h1
  | some p =>
    rw [hf] at h1
    simp only [Option.map_some, DataW.held.injEq] at h1
    have hm := List.mem_of_find?_eq_some hf
    have hk := List.find?_some hf
    simp at hk
    exact ⟨p.2, by rw [← hk]; exact hm, h1⟩
theorem fdel_of_ne (n : Int) : ∀ fs : FM, (∀ p ∈ fs, p.1 ≠ n) → fdel fs n = fs
  | fs, h => by unfold fdel; rw [List.filter_eq_self]; intro p hp; simp [h p hp]
theorem len_fins (x : Int × NE) : ∀ fs : FM, (fins x fs).length = fs.length + 1
  | [] => rfl
  | y :: r => by
    unfold fins
    split
    · rfl
    · simp [len_fins x r]
theorem len_fput (fs : FM) (n : Int) (f : NE) : (fput fs n f).length = (fdel fs n).length + 1 := by unfold fput; exact len_fins _ _
theorem mem_abs {fs : FM} {x : Int × List Nt} : x ∈ abs fs ↔ ∃ p ∈ fs, (p.1, p.2.l) = x := by simp [abs]
theorem rising_of {w : World} {b n : Nat} {fs : FM} (h : w.ownsMap Try.prog 3 Rh b n (dmap fs)) : (abs fs).Pairwise (fun p q => p.1 < q.1) := by
  obtain ⟨es, he, hp, _⟩ := h.canon law3
  have : es = fs.map fun p => (Lit.int .i64 p.1, (DataW.held p.2.sv : DataW Value)) := by simp only [dmap, DataW.map.injEq] at he; exact he.symm
  subst this
  rw [List.pairwise_map] at hp
  unfold abs
  rw [List.pairwise_map]
  exact hp.imp (fun h => by simpa [Lit.before] using h)

def Agr (f : List Nt → List Nt) (fc fs : FM) (left : Lit → Bool) : Prop := ∀ x : Int × List Nt, x ∈ abs fc ↔ (x.2 ≠ [] ∧ ∃ p ∈ abs fs, p.1 = x.1 ∧ f p.2 = x.2 ∧ left (.int .i64 p.1) = false)
theorem Agr.fresh {f : List Nt → List Nt} {fc fs : FM} {left : Lit → Bool} (h : Agr f fc fs left) {n : Int} (hl : left (.int .i64 n) = true) : ∀ p ∈ fc, p.1 ≠ n := fun p hp e => by
  obtain ⟨_, q, _, h2, _, h4⟩ := (h (p.1, p.2.l)).1 (mem_abs.2 ⟨p, hp, rfl⟩)
  simp only at h2
  rw [h2, e, hl] at h4
  cases h4
theorem Agr.skip {f : List Nt → List Nt} {fc fs : FM} {left : Lit → Bool} (h : Agr f fc fs left) (hr : (abs fs).Pairwise (fun p q => p.1 < q.1)) {n : Int} {l : List Nt} (hm : (n, l) ∈ abs fs) (he : f l = []) :
    Agr f fc fs (fun z => left z && !z.sameKey (.int .i64 n)) := by
  intro x
  rw [h x]
  simp only [sk]
  constructor
  · rintro ⟨h1, p, hp, h2, h3, h4⟩
    exact ⟨h1, p, hp, h2, h3, by simp [h4]⟩
  · rintro ⟨h1, p, hp, h2, h3, h4⟩
    refine ⟨h1, p, hp, h2, h3, ?_⟩
    by_cases e : p.1 = n
    · exfalso
      have h5 := tget_of_mem hr hp
      have h6 := tget_of_mem hr hm
      simp only at h6
      rw [e, h6] at h5
      rw [← h5, he] at h3
      exact h1 h3.symm
    · have : (p.1 == n) = false := by simpa using e
      rw [this] at h4
      simpa using h4
theorem Agr.step {f : List Nt → List Nt} {fc fs : FM} {left : Lit → Bool} (h : Agr f fc fs left) (hr : (abs fs).Pairwise (fun p q => p.1 < q.1)) {n : Int} {l : List Nt} (hm : (n, l) ∈ abs fs) (hl : left (.int .i64 n) = true) (he : f l ≠ []) (v : Value) :
    Agr f (fput fc n ⟨v, f l⟩) fs (fun z => left z && !z.sameKey (.int .i64 n)) := by
  intro x
  rw [abs_fput, mem_tput]
  simp only [sk]
  constructor
  · rintro (rfl | ⟨hx, hne⟩)
    · exact ⟨he, (n, l), hm, rfl, rfl, by simp⟩
    · obtain ⟨h1, p, hp, h2, h3, h4⟩ := (h x).1 hx
      exact ⟨h1, p, hp, h2, h3, by simp [h4]⟩
  · rintro ⟨h1, p, hp, h2, h3, h4⟩
    by_cases e : p.1 = n
    · have h5 := tget_of_mem hr hp
      have h6 := tget_of_mem hr hm
      simp only at h6
      rw [e, h6] at h5
      refine .inl (Prod.ext (by rw [← h2]; exact e) ?_)
      rw [← h3, ← h5]
    · have e' : (p.1 == n) = false := by simpa using e
      rw [e'] at h4
      exact .inr ⟨(h x).2 ⟨h1, p, hp, h2, h3, by simpa using h4⟩, by rw [← h2]; exact e⟩
theorem Agr.done {f : List Nt → List Nt} {fc fs : FM} {left : Lit → Bool} (h : Agr f fc fs left) (hl : ∀ kl, left kl = false) (hr : (abs fs).Pairwise (fun p q => p.1 < q.1)) (hc : (abs fc).Pairwise (fun p q => p.1 < q.1)) : abs fc = turnT f (abs fs) := by
  refine rise_ext _ _ hc ?_ (fun x => ?_)
  · unfold turnT
    refine List.Pairwise.filter _ ?_
    rw [List.pairwise_map]
    exact hr.imp fun h => h
  · rw [h x, mem_turnT]
    constructor
    · rintro ⟨h1, p, hp, h2, h3, _⟩; exact ⟨h1, p, hp, h2, h3⟩
    · rintro ⟨h1, p, hp, h2, h3⟩; exact ⟨h1, p, hp, h2, h3, hl _⟩

/-- A round of turn: the map that is made. -/
structure TurnR (f : List Nt → List Nt) (w wr : World) (fs fc : FM) (bm : Nat) (left : Lit → Bool) : Prop where
  map : wr.ownsMap Try.prog 3 Rh bm fc.length (dmap fc)
  owns : ∀ p ∈ fc, NL wr p.2.sv p.2.l ∧ ∀ k, p.2.sv.ownBlock = some k → (∃ e, (p.1, e) ∈ fs ∧ e.sv.ownBlock = some k) ∨ bm < k
  apart : fc.Pairwise (fun p q => ∀ k, p.2.sv.ownBlock = some k → q.2.sv.ownBlock ≠ some k)
  agr : Agr f fc fs left
  below : Below w.heap.size w wr
theorem TurnR.kept {f : List Nt → List Nt} {w wr w' : World} {fs fc : FM} {bm : Nat} {left : Lit → Bool} (h : TurnR f w wr fs fc bm left) (hb : ∀ k, k < wr.heap.size → k ≠ bm + 1 → w'.heap[k]? = wr.heap[k]?) (hit : ∀ cur, wr.heap[bm + 1]? ≠ some (.cells cur 64 (0, 0))) (hB : Below w.heap.size w w') (left' : Lit → Bool) (ha : Agr f fc fs left') :
    TurnR f w w' fs fc bm left' := by
  refine ⟨?_, fun p hp => ⟨(h.owns p hp).1.kept (fun k hk => ?_), (h.owns p hp).2⟩, h.apart, ha, hB⟩
  · have hl := h.map.lt
    obtain ⟨es, clock, hm, r⟩ := h.map
    exact ⟨es, clock, (hb bm hl (by omega)).trans hm, r⟩
  · refine hb k ((h.owns p hp).1.lt k hk) (fun e => ?_)
    obtain ⟨cur, hc⟩ := (h.owns p hp).1.block k hk
    rw [e] at hc
    exact hit cur hc
theorem makeHint (w : World) (n : Int) : (Instr.makeMap 53 (some (.int .i64 n))).run Try.prog w = .ok (.map (some w.heap.size)) (w.alloc (.map #[] 0)) := by kernel_rfl
theorem TabM.len {w : World} {S q b fs} (h : TabM w S q b fs) (ty : TypeId) : (Builtin.len_ #[53] ty #[.map (some b)]).run Try.prog w = .ok (.int .i64 (fs.length : Int)) w := by
  have := World.ownsMap.len h.files Try.underlying53 ty
  rw [dmap_size] at this
  exact this
theorem fs_ne {w : World} {S q b fs} (h : TabM w S q b fs) : ∀ p ∈ fs, p.2.sv.ownBlock ≠ none := fun p hp e => by
  have h1 := (h.ok.each (p.1, p.2.l) (mem_abs.2 ⟨p, hp, rfl⟩)).2.1
  obtain ⟨oa, cap, hs, _, _, _, hoa⟩ := (h.owns p hp).1.shape
  obtain ⟨g, rfl⟩ := hoa (List.length_pos_iff.2 h1)
  rw [hs] at e
  cases e
end Go.Proofs.Ytkdbclnnmpnfgaa

