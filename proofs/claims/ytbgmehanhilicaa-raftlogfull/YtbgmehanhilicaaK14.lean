/- What a log tells of its state: First, Term, Vote, Snapshot, At, ahead, Last. -/
import Derived.Test.YtbgmehanhilicaaK11
import Derived.BigQuiet
namespace Go.Proofs.Ytbgmehanhilicaa
open Go.RowKit Go.Maps
set_option maxRecDepth 100000
set_option linter.unusedSimpArgs false
set_option linter.unusedVariables false

theorem below_drewN {B : Nat} {a w : World} (h : Below B a w) (n : Nat) : Below B a (w.drewN n) := ⟨h.os, h.tape, h.output, h.size, h.block⟩
set_option maxHeartbeats 400000 in
theorem isId_any (n : Int) (w : World) : Calls Try.prog 23 #[.int .i64 n] w fun e w' => e = .returned (.bool (idB n)) ∧ w' = w := by
  have HN : Hid (idB n = (decide (1 ≤ n) && decide (n ≤ 1000000000))) := rfl
  by_cases h1 : 1 ≤ n
  · by_cases h2 : n ≤ 1000000000
    · rw [decide_eq_true h1, decide_eq_true h2] at HN
      go_enter Try.func23, Try.ntmps23
      go_wp2
      go_ret
      exact ⟨by rw [HN.out]; rfl, rfl⟩
    · rw [decide_eq_true h1, decide_eq_false h2] at HN
      go_enter Try.func23, Try.ntmps23
      go_wp2
      go_ret
      exact ⟨by rw [HN.out]; rfl, rfl⟩
  · rw [decide_eq_false h1] at HN
    go_enter Try.func23, Try.ntmps23
    go_wp2
    go_ret
    exact ⟨by rw [HN.out]; rfl, rfl⟩
set_option maxHeartbeats 400000 in
theorem isNum_any (n : Int) (w : World) : Calls Try.prog 34 #[.int .i64 n] w fun e w' => e = .returned (.bool (numB n)) ∧ w' = w := by
  have HN : Hid (numB n = (decide (0 ≤ n) && decide (n ≤ 1000000000))) := rfl
  by_cases h1 : 0 ≤ n
  · by_cases h2 : n ≤ 1000000000
    · rw [decide_eq_true h1, decide_eq_true h2] at HN
      go_enter Try.func34, Try.ntmps34
      go_wp2
      go_ret
      exact ⟨by rw [HN.out]; rfl, rfl⟩
    · rw [decide_eq_true h1, decide_eq_false h2] at HN
      go_enter Try.func34, Try.ntmps34
      go_wp2
      go_ret
      exact ⟨by rw [HN.out]; rfl, rfl⟩
  · rw [decide_eq_false h1] at HN
    go_enter Try.func34, Try.ntmps34
    go_wp2
    go_ret
    exact ⟨by rw [HN.out]; rfl, rfl⟩
/-- What the numbers of a log are bounded by. -/
structure LB (s : LSt) : Prop where
  i0 : 0 ≤ s.snap.i
  i1 : s.snap.i ≤ 1000000000
  len : s.list.length ≤ 3000000
set_option maxHeartbeats 400000 in
theorem first_any {w : World} {U q a v s} (h : LogM w U q a v s) (hb : LB s) : Calls Try.prog 14 #[.pointer (some ⟨q, 0, none⟩)] w fun e w' => e = .returned (.int .i64 (s.snap.i + 1)) ∧ w = w' := by
  have c3 := h.c.c3
  have h0 := hb.i0
  have h1 := hb.i1
  clear h hb
  generalize s.snap.i = I at *
  go_enter Try.func14, Try.ntmps14
  go_wp2
  go_ret
  exact ⟨rfl, rfl⟩
set_option maxHeartbeats 400000 in
theorem term_any {w : World} {U q a v s} (h : LogM w U q a v s) : Calls Try.prog 18 #[.pointer (some ⟨q, 0, none⟩)] w fun e w' => e = .returned (.int .i64 s.term) ∧ w = w' := by
  have c := h.c.c0
  clear h
  go_enter Try.func18, Try.ntmps18
  go_wp2
  go_ret
  exact ⟨rfl, rfl⟩
set_option maxHeartbeats 400000 in
theorem vote_any {w : World} {U q a v s} (h : LogM w U q a v s) : Calls Try.prog 19 #[.pointer (some ⟨q, 0, none⟩)] w fun e w' => e = .returned (.int .i64 s.vote) ∧ w = w' := by
  have c := h.c.c1
  clear h
  go_enter Try.func19, Try.ntmps19
  go_wp2
  go_ret
  exact ⟨rfl, rfl⟩
set_option maxHeartbeats 400000 in
theorem ldisk_any {w : World} {U q a v s} (h : LogM w U q a v s) : Calls Try.prog 24 #[.pointer (some ⟨q, 0, none⟩)] w fun e w' => e = .returned (.pointer (some ⟨a, 0, none⟩)) ∧ w = w' := by
  have c := h.c.c6
  clear h
  go_enter Try.func24, Try.ntmps24
  go_wp2
  go_ret
  exact ⟨rfl, rfl⟩
set_option maxHeartbeats 800000 in
theorem snapshot_any {w : World} {U q a v s} (h : LogM w U q a v s) : Calls Try.prog 12 #[.pointer (some ⟨q, 0, none⟩)] w fun e w' => e = .returned (.tuple #[.int .i64 s.snap.i, .int .i64 s.snap.t, .string (strOf s.snap.d)]) ∧ Below w.heap.size w w' := by
  have c2 := h.c.c2
  have c3 := h.c.c3
  have c4 := h.c.c4
  clear h
  generalize s.snap = S at *
  obtain ⟨t, i, d⟩ := S
  go_enter Try.func12, Try.ntmps12
  go_wp2
  go_quiet (fail)
  go_wp2_with fail
  go_ret3
  exact ⟨rfl, below_drewN (Below.refl _ _) _⟩
end Go.Proofs.Ytbgmehanhilicaa

/- At, ahead, Last. -/
namespace Go.Proofs.Ytbgmehanhilicaa
open Go.RowKit Go.Maps
set_option maxRecDepth 100000
set_option linter.unusedSimpArgs false
set_option linter.unusedVariables false

theorem below_drewE {B : Nat} {w W : World} (h : Below B w W) (W' : World) (e : W' = W.drew := by rfl) : Below B w W' := by subst e; exact h.drew
theorem new3 (w : World) (u0 u1 u2 : Value) (T : TypeId) : (w.alloc (.cells #[u0, u1, u2] T)).cell? ⟨w.heap.size, 0, none⟩ = some u0 ∧ (w.alloc (.cells #[u0, u1, u2] T)).cell? ⟨w.heap.size, 1, none⟩ = some u1 ∧ (w.alloc (.cells #[u0, u1, u2] T)).cell? ⟨w.heap.size, 2, none⟩ = some u2 :=
  ⟨cell_at (heap_alloc_new w _) rfl, cell_at (heap_alloc_new w _) rfl, cell_at (heap_alloc_new w _) rfl⟩
theorem set3_below {w W : World} {q : Nat} (hb : Below w.heap.size w W) (hq : w.heap.size ≤ q) (u0 u1 u2 : Value) : Below w.heap.size w (((W.setCell ⟨q, 0, none⟩ u0).setCell ⟨q, 1, none⟩ u1).setCell ⟨q, 2, none⟩ u2) :=
  ((hb.setCell (p := ⟨q, 0, none⟩) hq _).setCell (p := ⟨q, 1, none⟩) hq _).setCell (p := ⟨q, 2, none⟩) hq _
set_option maxHeartbeats 1600000 in
theorem at_any {w : World} {U q a v s} (h : LogM w U q a v s) (hb : LB s) (idx : Int) :
    Calls Try.prog 15 #[.pointer (some ⟨q, 0, none⟩), .int .i64 idx] w fun e w' => e = .returned (.tuple #[evalue ((atE s idx).getD e0), .bool (atE s idx).isSome]) ∧ Below w.heap.size w w' := by
  obtain ⟨oa, cap, rfl, hcap, hcm, hnn, hoa⟩ := h.ents.shape
  have hb1 : Below w.heap.size w (w.alloc (.cells #[.int .i64 0, .int .i64 0, .string ⟨#[]⟩] 38)) := (Below.refl _ _).alloc (Nat.le_refl _) _
  have h1 := h.under hb1
  have q14 : Hid (∀ n, Calls Try.prog 14 #[.pointer (some ⟨q, 0, none⟩)] ((w.alloc (.cells #[.int .i64 0, .int .i64 0, .string ⟨#[]⟩] 38)).drewN n) fun e w' => e = .returned (.int .i64 (s.snap.i + 1)) ∧ w' = (w.alloc (.cells #[.int .i64 0, .int .i64 0, .string ⟨#[]⟩] 38)).drewN n) := fun n => (first_any (h1.under (below_drewN (Below.refl _ _) n)) hb).mono fun e w' ⟨e1, e2⟩ => ⟨e1, e2.symm⟩
  have H14 : Hid (∀ W, Below (w.alloc (.cells #[.int .i64 0, .int .i64 0, .string ⟨#[]⟩] 38)).heap.size (w.alloc (.cells #[.int .i64 0, .int .i64 0, .string ⟨#[]⟩] 38)) W → Calls Try.prog 14 #[.pointer (some ⟨q, 0, none⟩)] W fun e w' => e = .returned (.int .i64 (s.snap.i + 1)) ∧ W = w') := fun W hW => first_any (h1.under hW) hb
  have c5 := h1.c.c5
  obtain ⟨n0, n1, n2⟩ := new3 w (.int .i64 0) (.int .i64 0) (.string ⟨#[]⟩) 38
  have hf : ∀ j, (w.alloc (.cells #[.int .i64 0, .int .i64 0, .string ⟨#[]⟩] 38)).frozen? ⟨w.heap.size, j, none⟩ = false := fun j => frozen_blk (heap_alloc_new w _) j
  have f0 := hf 0
  have f1 := hf 1
  have f2 := hf 2
  have HB := hid hb1
  have HE := hid h1.ents
  have i0 := hb.i0
  have i1 := hb.i1
  have hlen := hb.len
  have HA : Hid (atE s idx = if idx < s.snap.i + 1 ∨ s.snap.i + 1 + (s.list.length : Int) ≤ idx then none else s.list[(idx - (s.snap.i + 1)).toNat]?) := rfl
  clear h h1 hb hb1 hf
  generalize s.list = L at *
  generalize s.snap.i = I at *
  by_cases ha : idx < I + 1
  · have hA : Hid (atE s idx = none) := by have := HA.out; rw [if_pos (.inl ha)] at this; exact this
    have hd : decide (idx < I + 1) = true := decide_eq_true ha
    go_enter Try.func15, Try.ntmps15
    go_wp2_with fail
    generalize w.alloc (.cells #[.int .i64 0, .int .i64 0, .string ⟨#[]⟩] 38) = W1 at *
    go_quiet ((go_at_call 14; exact Calls.quiet_of_same (q14.out _)))
    go_wp2_with fail
    refine bodyPost_ret (v := .tuple #[.agg #[.int .i64 0, .int .i64 0, .string ⟨#[]⟩], .bool false]) (by simp [results, Try.results15, go_sem, n0, n1, n2]) rfl ⟨by rw [hA.out]; rfl, ?_⟩
    exact set3_below (below_drewN HB.out _) (Nat.le_refl _) _ _ _
  · have hd : decide (idx < I + 1) = false := decide_eq_false ha
    by_cases hz : I + 1 + (L.length : Int) ≤ idx
    · have hA : Hid (atE s idx = none) := by have := HA.out; rw [if_pos (.inr hz)] at this; exact this
      have hd2 : decide (I + 1 + (L.length : Int) ≤ idx) = true := decide_eq_true hz
      go_enter Try.func15, Try.ntmps15
      go_wp2_with fail
      generalize w.alloc (.cells #[.int .i64 0, .int .i64 0, .string ⟨#[]⟩] 38) = W1 at *
      go_quiet ((go_at_call 14; exact Calls.quiet_of_same (q14.out _)))
      go_wp2_with fail
      refine bodyPost_ret (v := .tuple #[.agg #[.int .i64 0, .int .i64 0, .string ⟨#[]⟩], .bool false]) (by simp [results, Try.results15, go_sem, n0, n1, n2]) rfl ⟨by rw [hA.out]; rfl, ?_⟩
      exact set3_below (below_drewN HB.out _) (Nat.le_refl _) _ _ _
    · have hd2 : decide (I + 1 + (L.length : Int) ≤ idx) = false := decide_eq_false hz
      obtain ⟨k, hk⟩ : ∃ k : Nat, idx = I + 1 + (k : Int) := ⟨(idx - (I + 1)).toNat, by omega⟩
      have hkl : k < L.length := by omega
      have hx : L[k]? = some L[k] := List.getElem?_eq_getElem hkl
      have hA : Hid (atE s idx = some L[k]) := by
        have := HA.out
        rw [if_neg (by omega)] at this
        have e : (idx - (I + 1)).toNat = k := by omega
        rw [e, hx] at this
        exact this
      obtain ⟨g, rfl⟩ := hoa (by omega)
      obtain ⟨r0, r1, r2⟩ := HE.out.at_ k _ hx
      clear hx HA HE hoa
      generalize L[k] = x at *
      have hsub : idx - (I + 1) = (k : Int) := by omega
      have hk0 : (k : Int) < (L.length : Int) := by omega
      have hw : IntKind.i64.wrap (idx - (I + 1)) = (k : Int) := by rw [hsub]; exact IntWalk.i64_in _ ⟨by omega, by omega⟩
      have hx0 : 0 ≤ idx - (I + 1) := by omega
      have hx1 : idx - (I + 1) < (L.length : Int) := by omega
      have hk1 : (0 : Int) ≤ (k : Int) := by omega
      have hw2 : IntKind.i64.wrap (k : Int) = (k : Int) := IntWalk.i64_in _ ⟨by omega, by omega⟩
      clear hk hsub hx0 hx1
      go_enter Try.func15, Try.ntmps15
      go_wp2_with fail
      generalize w.alloc (.cells #[.int .i64 0, .int .i64 0, .string ⟨#[]⟩] 38) = W1 at *
      go_quiet ((go_at_call 14; exact Calls.quiet_of_same (q14.out _)))
      go_wp2_with fail
      go_region_with ((go_at_call 14; refine (H14.out _ (by first | exact below_drewN (Below.refl _ _) _ | exact (below_drewN (Below.refl _ _) _).drew)).mono ?_; rintro e w2 ⟨rfl, rfl⟩))
      all_goals
        go_wp2_with fail
        refine bodyPost_ret (v := .tuple #[.agg #[.int .i64 x.t, .int .i64 x.i, .string (strOf x.d)], .bool true]) (by simp [results, Try.results15, go_sem, n0, n1, n2]) rfl ⟨by rw [hA.out]; rfl, ?_⟩
        exact set3_below (by first | exact below_drewN HB.out _ | exact (below_drewN HB.out _).drew) (Nat.le_refl _) _ _ _
end Go.Proofs.Ytbgmehanhilicaa

/- ahead, Last. -/
namespace Go.Proofs.Ytbgmehanhilicaa
open Go.RowKit Go.Maps
set_option maxRecDepth 100000
set_option linter.unusedSimpArgs false
set_option linter.unusedVariables false

theorem lt_blk {W : World} {b : Nat} {O : Obj} (h : W.heap[b]? = some O) : b < W.heap.size := (Array.getElem?_eq_some_iff.1 h).1
theorem blk_alloc {W : World} {b : Nat} {O : Obj} (h : W.heap[b]? = some O) (O' : Obj) : (W.alloc O').heap[b]? = some O := by
  rw [Below.heap_alloc _ _ _ (lt_blk h)]; exact h
/-- A block of three cells, also behind one new block. -/
theorem blk3 {W : World} {b : Nat} {u0 u1 u2 : Value} {T : TypeId} (h : W.heap[b]? = some (.cells #[u0, u1, u2] T)) : (∀ O, (W.alloc O).cell? ⟨b, 0, none⟩ = some u0) ∧ (∀ O, (W.alloc O).cell? ⟨b, 1, none⟩ = some u1) ∧ (∀ O, (W.alloc O).cell? ⟨b, 2, none⟩ = some u2) ∧ (∀ O, (W.alloc O).frozen? ⟨b, 0, none⟩ = false) ∧ (∀ O, (W.alloc O).frozen? ⟨b, 1, none⟩ = false) ∧ (∀ O, (W.alloc O).frozen? ⟨b, 2, none⟩ = false) :=
  ⟨fun O => cell_at (blk_alloc h O) rfl, fun O => cell_at (blk_alloc h O) rfl, fun O => cell_at (blk_alloc h O) rfl, fun O => frozen_blk (blk_alloc h O) 0, fun O => frozen_blk (blk_alloc h O) 1, fun O => frozen_blk (blk_alloc h O) 2⟩
theorem kept_blk {w W : World} {O : Obj} (hb : Below (w.alloc O).heap.size (w.alloc O) W) : W.heap[w.heap.size]? = some O := by
  rw [hb.block w.heap.size (by simp)]
  exact heap_alloc_new w O
set_option maxHeartbeats 1600000 in
theorem ahead_any {w : World} {U q a v s} (h : LogM w U q a v s) (hb : LB s) (idx : Int) (hi1 : -9223372036854775807 ≤ idx) (hi2 : idx ≤ 9223372036854775807) :
    Calls Try.prog 22 #[.pointer (some ⟨q, 0, none⟩), .int .i64 idx] w fun e w' => e = .returned (evalue (aheadE s idx)) ∧ Below w.heap.size w w' := by
  have hb1 : Below w.heap.size w (w.alloc (.cells #[.int .i64 0, .int .i64 0, .string ⟨#[]⟩] 38)) := (Below.refl _ _).alloc (Nat.le_refl _) _
  have h1 := h.under hb1
  have H15 := hid (at_any h1 hb (idx - 1))
  have HC : Hid (∀ W, Below (w.alloc (.cells #[.int .i64 0, .int .i64 0, .string ⟨#[]⟩] 38)).heap.size (w.alloc (.cells #[.int .i64 0, .int .i64 0, .string ⟨#[]⟩] 38)) W → ∀ O, (W.alloc O).cell? ⟨q, 2, none⟩ = some (.int .i64 s.snap.t) ∧ (W.alloc O).cell? ⟨q, 3, none⟩ = some (.int .i64 s.snap.i) ∧ (W.alloc O).cell? ⟨q, 4, none⟩ = some (.string (strOf s.snap.d))) := fun W hW O => by
    have h2 := (h1.under hW).under ((Below.refl W.heap.size W).alloc (Nat.le_refl _) O)
    exact ⟨h2.c.c2, h2.c.c3, h2.c.c4⟩
  have HB := hid hb1
  have HS : Hid (aheadE s idx = (atE s (idx - 1)).getD s.snap) := rfl
  clear h h1 hb hb1
  unfold evalue at H15 ⊢
  cases hA : atE s (idx - 1) with
  | none =>
    rw [hA] at H15 HS
    simp only [Option.getD_none] at HS
    clear hA
    generalize s.snap = S at *
    obtain ⟨t, i, d⟩ := S
    go_enter Try.func22, Try.ntmps22
    go_wp2_with (go_at_call 15; refine H15.out.mono ?_; rintro e w2 ⟨rfl, hb2⟩; have p2 := (fun O => (HC.out _ hb2 O).1); have p3 := (fun O => (HC.out _ hb2 O).2.1); have p4 := (fun O => (HC.out _ hb2 O).2.2); obtain ⟨r0, r1, r2, f0, f1, f2⟩ := blk3 (kept_blk hb2); have HB2 := hid (HB.out.trans (hb2.mono HB.out.size)); clear hb2)
    refine bodyPost_ret (v := .agg #[.int .i64 t, .int .i64 i, .string (strOf d)]) (by simp [results, Try.results22, go_sem, r0, r1, r2, p2, p3, p4]) rfl ⟨by rw [HS.out], ?_⟩
    exact set3_below (HB2.out.alloc HB2.out.size _) (Nat.le_refl _) _ _ _
  | some x =>
    rw [hA] at H15 HS
    simp only [Option.getD_some] at HS
    clear hA
    obtain ⟨t, i, d⟩ := x
    go_enter Try.func22, Try.ntmps22
    go_wp2_with (go_at_call 15; refine H15.out.mono ?_; rintro e w2 ⟨rfl, hb2⟩; obtain ⟨r0, r1, r2, f0, f1, f2⟩ := blk3 (kept_blk hb2); have HB2 := hid (HB.out.trans (hb2.mono HB.out.size)); clear hb2)
    refine bodyPost_ret (v := .agg #[.int .i64 t, .int .i64 i, .string (strOf d)]) (by simp [results, Try.results22, go_sem, r0, r1, r2]) rfl ⟨by rw [HS.out], ?_⟩
    exact set3_below (HB2.out.alloc HB2.out.size _) (Nat.le_refl _) _ _ _
end Go.Proofs.Ytbgmehanhilicaa

