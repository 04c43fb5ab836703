/- What a log tells of its state: First, Term, Vote, Snapshot, At, ahead, Last. -/
import Derived.Test.YtclldpecbocclaaGreatK8
import Derived.BigQuiet
namespace Go.Proofs.YtclldpecbocclaaGreat
open Go.RowKit Go.Maps
set_option maxRecDepth 100000
set_option linter.unusedSimpArgs false
set_option linter.unusedVariables false

theorem below_drewN {B : Nat} {a w : World} (h : Below B a w) (n : Nat) : Below B a (w.drewN n) := ⟨h.os, h.tape, h.output, h.size, h.block⟩
set_option maxHeartbeats 400000 in
theorem isId_any (n : Int) (w : World) : Calls Tryz.prog 31 #[.int .i64 n] w fun e w' => e = .returned (.bool (idB n)) ∧ w' = w := by
  have HN : Hid (idB n = (decide (1 ≤ n) && decide (n ≤ 1000000000))) := rfl
  by_cases h1 : 1 ≤ n
  · by_cases h2 : n ≤ 1000000000
    · rw [decide_eq_true h1, decide_eq_true h2] at HN
      go_enter Tryz.func31, Tryz.ntmps31
      go_wp2
      go_ret
      exact ⟨by rw [HN.out]; rfl, rfl⟩
    · rw [decide_eq_true h1, decide_eq_false h2] at HN
      go_enter Tryz.func31, Tryz.ntmps31
      go_wp2
      go_ret
      exact ⟨by rw [HN.out]; rfl, rfl⟩
  · rw [decide_eq_false h1] at HN
    go_enter Tryz.func31, Tryz.ntmps31
    go_wp2
    go_ret
    exact ⟨by rw [HN.out]; rfl, rfl⟩
set_option maxHeartbeats 400000 in
theorem isNum_any (n : Int) (w : World) : Calls Tryz.prog 27 #[.int .i64 n] w fun e w' => e = .returned (.bool (numB n)) ∧ w' = w := by
  have HN : Hid (numB n = (decide (0 ≤ n) && decide (n ≤ 1000000000))) := rfl
  by_cases h1 : 0 ≤ n
  · by_cases h2 : n ≤ 1000000000
    · rw [decide_eq_true h1, decide_eq_true h2] at HN
      go_enter Tryz.func27, Tryz.ntmps27
      go_wp2
      go_ret
      exact ⟨by rw [HN.out]; rfl, rfl⟩
    · rw [decide_eq_true h1, decide_eq_false h2] at HN
      go_enter Tryz.func27, Tryz.ntmps27
      go_wp2
      go_ret
      exact ⟨by rw [HN.out]; rfl, rfl⟩
  · rw [decide_eq_false h1] at HN
    go_enter Tryz.func27, Tryz.ntmps27
    go_wp2
    go_ret
    exact ⟨by rw [HN.out]; rfl, rfl⟩
/-- What the numbers of a log are bounded by. -/
structure LB (s : LSt) : Prop where
  i0 : 0 ≤ s.snap.i
  i1 : s.snap.i ≤ 1000000000
  len : s.list.length ≤ 3000000
set_option maxHeartbeats 400000 in
theorem first_any {w : World} {U q a v s} (h : LogM w U q a v s) (hb : LB s) : Calls Tryz.prog 20 #[.pointer (some ⟨q, 0, none⟩)] w fun e w' => e = .returned (.int .i64 (s.snap.i + 1)) ∧ w = w' := by
  have c3 := h.c.c3
  have h0 := hb.i0
  have h1 := hb.i1
  clear h hb
  generalize s.snap.i = I at *
  go_enter Tryz.func20, Tryz.ntmps20
  go_wp2
  go_ret
  exact ⟨rfl, rfl⟩
set_option maxHeartbeats 400000 in
theorem term_any {w : World} {U q a v s} (h : LogM w U q a v s) : Calls Tryz.prog 7 #[.pointer (some ⟨q, 0, none⟩)] w fun e w' => e = .returned (.int .i64 s.term) ∧ w = w' := by
  have c := h.c.c0
  clear h
  go_enter Tryz.func7, Tryz.ntmps7
  go_wp2
  go_ret
  exact ⟨rfl, rfl⟩
set_option maxHeartbeats 400000 in
theorem vote_any {w : World} {U q a v s} (h : LogM w U q a v s) : Calls Tryz.prog 8 #[.pointer (some ⟨q, 0, none⟩)] w fun e w' => e = .returned (.int .i64 s.vote) ∧ w = w' := by
  have c := h.c.c1
  clear h
  go_enter Tryz.func8, Tryz.ntmps8
  go_wp2
  go_ret
  exact ⟨rfl, rfl⟩
set_option maxHeartbeats 400000 in
theorem ldisk_any {w : World} {U q a v s} (h : LogM w U q a v s) : Calls Tryz.prog 28 #[.pointer (some ⟨q, 0, none⟩)] w fun e w' => e = .returned (.pointer (some ⟨a, 0, none⟩)) ∧ w = w' := by
  have c := h.c.c6
  clear h
  go_enter Tryz.func28, Tryz.ntmps28
  go_wp2
  go_ret
  exact ⟨rfl, rfl⟩
set_option maxHeartbeats 800000 in
theorem snapshot_any {w : World} {U q a v s} (h : LogM w U q a v s) : Calls Tryz.prog 17 #[.pointer (some ⟨q, 0, none⟩)] w fun e w' => e = .returned (.tuple #[.int .i64 s.snap.i, .int .i64 s.snap.t, .string (strOf s.snap.d)]) ∧ Below w.heap.size w w' := by
  have c2 := h.c.c2
  have c3 := h.c.c3
  have c4 := h.c.c4
  clear h
  generalize s.snap = S at *
  obtain ⟨t, i, d⟩ := S
  go_enter Tryz.func17, Tryz.ntmps17
  go_wp2
  go_quiet (fail)
  go_wp2_with fail
  go_ret3
  exact ⟨rfl, below_drewN (Below.refl _ _) _⟩
end Go.Proofs.YtclldpecbocclaaGreat

/- At, ahead, Last. -/
namespace Go.Proofs.YtclldpecbocclaaGreat
open Go.RowKit Go.Maps
set_option maxRecDepth 100000
set_option linter.unusedSimpArgs false
set_option linter.unusedVariables false

theorem below_drewE {B : Nat} {w W : World} (h : Below B w W) (W' : World) (e : W' = W.drew := by rfl) : Below B w W' := by subst e; exact h.drew
theorem new3 (w : World) (u0 u1 u2 : Value) (T : TypeId) : (w.alloc (.cells #[u0, u1, u2] T)).cell? ⟨w.heap.size, 0, none⟩ = some u0 ∧ (w.alloc (.cells #[u0, u1, u2] T)).cell? ⟨w.heap.size, 1, none⟩ = some u1 ∧ (w.alloc (.cells #[u0, u1, u2] T)).cell? ⟨w.heap.size, 2, none⟩ = some u2 :=
  ⟨cell_at (heap_alloc_new w _) rfl, cell_at (heap_alloc_new w _) rfl, cell_at (heap_alloc_new w _) rfl⟩
theorem set3_below {w W : World} {q : Nat} (hb : Below w.heap.size w W) (hq : w.heap.size ≤ q) (u0 u1 u2 : Value) : Below w.heap.size w (((W.setCell ⟨q, 0, none⟩ u0).setCell ⟨q, 1, none⟩ u1).setCell ⟨q, 2, none⟩ u2) :=
  ((hb.setCell (p := ⟨q, 0, none⟩) hq _).setCell (p := ⟨q, 1, none⟩) hq _).setCell (p := ⟨q, 2, none⟩) hq _
set_option maxHeartbeats 1600000 in
theorem at_any {w : World} {U q a v s} (h : LogM w U q a v s) (hb : LB s) (idx : Int) :
    Calls Tryz.prog 14 #[.pointer (some ⟨q, 0, none⟩), .int .i64 idx] w fun e w' => e = .returned (.tuple #[evalue ((atE s idx).getD e0), .bool (atE s idx).isSome]) ∧ Below w.heap.size w w' := by
  obtain ⟨oa, cap, rfl, hcap, hcm, hnn, hoa⟩ := h.ents.shape
  have hb1 : Below w.heap.size w (w.alloc (.cells #[.int .i64 0, .int .i64 0, .string ⟨#[]⟩] 37)) := (Below.refl _ _).alloc (Nat.le_refl _) _
  have h1 := h.under hb1
  have q14 : Hid (∀ n, Calls Tryz.prog 20 #[.pointer (some ⟨q, 0, none⟩)] ((w.alloc (.cells #[.int .i64 0, .int .i64 0, .string ⟨#[]⟩] 37)).drewN n) fun e w' => e = .returned (.int .i64 (s.snap.i + 1)) ∧ w' = (w.alloc (.cells #[.int .i64 0, .int .i64 0, .string ⟨#[]⟩] 37)).drewN n) := fun n => (first_any (h1.under (below_drewN (Below.refl _ _) n)) hb).mono fun e w' ⟨e1, e2⟩ => ⟨e1, e2.symm⟩
  have H14 : Hid (∀ W, Below (w.alloc (.cells #[.int .i64 0, .int .i64 0, .string ⟨#[]⟩] 37)).heap.size (w.alloc (.cells #[.int .i64 0, .int .i64 0, .string ⟨#[]⟩] 37)) W → Calls Tryz.prog 20 #[.pointer (some ⟨q, 0, none⟩)] W fun e w' => e = .returned (.int .i64 (s.snap.i + 1)) ∧ W = w') := fun W hW => first_any (h1.under hW) hb
  have c5 := h1.c.c5
  obtain ⟨n0, n1, n2⟩ := new3 w (.int .i64 0) (.int .i64 0) (.string ⟨#[]⟩) 37
  have hf : ∀ j, (w.alloc (.cells #[.int .i64 0, .int .i64 0, .string ⟨#[]⟩] 37)).frozen? ⟨w.heap.size, j, none⟩ = false := fun j => frozen_blk (heap_alloc_new w _) j
  have f0 := hf 0
  have f1 := hf 1
  have f2 := hf 2
  have HB := hid hb1
  have HE := hid h1.ents
  have i0 := hb.i0
  have i1 := hb.i1
  have hlen := hb.len
  have HA : Hid (atE s idx = if idx < s.snap.i + 1 ∨ s.snap.i + 1 + (s.list.length : Int) ≤ idx then none else s.list[(idx - (s.snap.i + 1)).toNat]?) := rfl
  clear h h1 hb hb1 hf
  generalize s.list = L at *
  generalize s.snap.i = I at *
  by_cases ha : idx < I + 1
  · have hA : Hid (atE s idx = none) := by have := HA.out; rw [if_pos (.inl ha)] at this; exact this
    have hd : decide (idx < I + 1) = true := decide_eq_true ha
    go_enter Tryz.func14, Tryz.ntmps14
    go_wp2_with fail
    generalize w.alloc (.cells #[.int .i64 0, .int .i64 0, .string ⟨#[]⟩] 37) = W1 at *
    go_quiet ((go_at_call 20; exact Calls.quiet_of_same (q14.out _)))
    go_wp2_with fail
    refine bodyPost_ret (v := .tuple #[.agg #[.int .i64 0, .int .i64 0, .string ⟨#[]⟩], .bool false]) (by simp [results, Tryz.results14, go_sem, n0, n1, n2]) rfl ⟨by rw [hA.out]; rfl, ?_⟩
    exact set3_below (below_drewN HB.out _) (Nat.le_refl _) _ _ _
  · have hd : decide (idx < I + 1) = false := decide_eq_false ha
    by_cases hz : I + 1 + (L.length : Int) ≤ idx
    · have hA : Hid (atE s idx = none) := by have := HA.out; rw [if_pos (.inr hz)] at this; exact this
      have hd2 : decide (I + 1 + (L.length : Int) ≤ idx) = true := decide_eq_true hz
      go_enter Tryz.func14, Tryz.ntmps14
      go_wp2_with fail
      generalize w.alloc (.cells #[.int .i64 0, .int .i64 0, .string ⟨#[]⟩] 37) = W1 at *
      go_quiet ((go_at_call 20; exact Calls.quiet_of_same (q14.out _)))
      go_wp2_with fail
      refine bodyPost_ret (v := .tuple #[.agg #[.int .i64 0, .int .i64 0, .string ⟨#[]⟩], .bool false]) (by simp [results, Tryz.results14, go_sem, n0, n1, n2]) rfl ⟨by rw [hA.out]; rfl, ?_⟩
      exact set3_below (below_drewN HB.out _) (Nat.le_refl _) _ _ _
    · have hd2 : decide (I + 1 + (L.length : Int) ≤ idx) = false := decide_eq_false hz
      obtain ⟨k, hk⟩ : ∃ k : Nat, idx = I + 1 + (k : Int) := ⟨(idx - (I + 1)).toNat, by omega⟩
      have hkl : k < L.length := by omega
      have hx : L[k]? = some L[k] := List.getElem?_eq_getElem hkl
      have hA : Hid (atE s idx = some L[k]) := by
        have := HA.out
        rw [if_neg (by omega)] at this
        have e : (idx - (I + 1)).toNat = k := by omega
        rw [e, hx] at this
        exact this
      obtain ⟨g, rfl⟩ := hoa (by omega)
      obtain ⟨r0, r1, r2⟩ := HE.out.at_ k _ hx
      clear hx HA HE hoa
      generalize L[k] = x at *
      have hsub : idx - (I + 1) = (k : Int) := by omega
      have hk0 : (k : Int) < (L.length : Int) := by omega
      have hw : IntKind.i64.wrap (idx - (I + 1)) = (k : Int) := by rw [hsub]; exact IntWalk.i64_in _ ⟨by omega, by omega⟩
      have hx0 : 0 ≤ idx - (I + 1) := by omega
      have hx1 : idx - (I + 1) < (L.length : Int) := by omega
      have hk1 : (0 : Int) ≤ (k : Int) := by omega
      have hw2 : IntKind.i64.wrap (k : Int) = (k : Int) := IntWalk.i64_in _ ⟨by omega, by omega⟩
      clear hk hsub hx0 hx1
      go_enter Tryz.func14, Tryz.ntmps14
      go_wp2_with fail
      generalize w.alloc (.cells #[.int .i64 0, .int .i64 0, .string ⟨#[]⟩] 37) = W1 at *
      go_quiet ((go_at_call 20; exact Calls.quiet_of_same (q14.out _)))
      go_wp2_with fail
      go_region_with ((go_at_call 20; refine (H14.out _ (by first | exact below_drewN (Below.refl _ _) _ | exact (below_drewN (Below.refl _ _) _).drew)).mono ?_; rintro e w2 ⟨rfl, rfl⟩))
      all_goals
        go_wp2_with fail
        refine bodyPost_ret (v := .tuple #[.agg #[.int .i64 x.t, .int .i64 x.i, .string (strOf x.d)], .bool true]) (by simp [results, Tryz.results14, go_sem, n0, n1, n2]) rfl ⟨by rw [hA.out]; rfl, ?_⟩
        exact set3_below (by first | exact below_drewN HB.out _ | exact (below_drewN HB.out _).drew) (Nat.le_refl _) _ _ _
end Go.Proofs.YtclldpecbocclaaGreat

