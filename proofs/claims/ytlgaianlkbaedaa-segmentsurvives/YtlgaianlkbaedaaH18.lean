/- add. -/
import Derived.Test.YtlgaianlkbaedaaH17
import Derived.Deep.RegionLaw
namespace Go.Proofs.Ytlgaianlkbaedaa
open Go.RowKit Go.Maps Go.Sort
set_option maxRecDepth 100000
set_option linter.unusedSimpArgs false
set_option linter.unusedVariables false

theorem SegM.grown {w W w5 : World} {U q a base name m v ix} (h : SegM w U q a base name m v ix) (hb : Below w.heap.size w W) (hg : W.grownBy w5 v.ownBlock) {v' : Value} {ix' : List Mk} (hown : w5.ownsRow 0 61 3 v' ix'.length (flatM ix')) (hv' : ∀ k, v'.ownBlock = some k → v.ownBlock = some k ∨ w.heap.size ≤ k) :
    SegM (w5.setCell ⟨q, 6, none⟩ v') (fun k => U k ∨ (w.heap.size ≤ k ∧ k < w5.heap.size)) q a base name m v' ix' ∧ Keeps U w (w5.setCell ⟨q, 6, none⟩ v') := by
  have hsz := hg.size
  have hbs := hb.size
  have hq := h.below q h.self
  have hoff := h.off
  have hcq : w5.heap[q]? = some (.cells #[.pointer (some ⟨a, 0, none⟩), .string name, .int .i64 (base : Int), .int .i64 (m.base : Int), .int .i64 (m.at_ : Int), .int .i64 (m.nth : Int), v] 64) := by
    rw [hg.block q (by omega) (fun e => hoff e.symm), hb.block q hq]
    exact h.cells
  have hq' : v'.ownBlock ≠ some q := fun e => by
    rcases hv' q e with h1 | h1
    · exact hoff h1
    · omega
  refine ⟨⟨fun k hk => ?_, .inl h.self, set_box hcq, ⟨hown.1, ?_⟩, fun k hk => ?_⟩, hg.os.trans hb.os, hg.tape.trans hb.tape, hg.output.trans hb.output, by rw [set_size]; omega, fun k hk hU => ?_⟩
  · rw [set_size]
    rcases hk with hk | hk
    · have := h.below k hk; omega
    · exact hk.2
  · rcases hown.2 with h0 | ⟨g, cap, cur, e, hb0, hg0, rest⟩
    · exact .inl h0
    · exact .inr ⟨g, cap, cur, e, hb0, (Below.heap_setCell w5 ⟨q, 6, none⟩ v' g (fun e2 => hq' (by have e3 : g = q := e2; rw [e, e3]; rfl))).trans hg0, rest⟩
  · rcases hv' k hk with h1 | h1
    · exact .inl (h.rowU k h1)
    · exact .inr ⟨h1, (hown.lt k hk).2⟩
  · rw [Below.heap_setCell w5 ⟨q, 6, none⟩ v' k (fun e => hU (by have e3 : k = q := e; rw [e3]; exact h.self)), hg.block k (by omega) (fun e => hU (h.rowU k e.symm))]
    exact hb.block k hk
theorem keeps_end {U : Nat → Prop} {w W : World} {q : Nat} (h : Keeps U w W) (hq : U q) (e : Mk) : Keeps U w (((W.setCell ⟨q, 3, none⟩ (.int .i64 (e.base : Int))).setCell ⟨q, 4, none⟩ (.int .i64 (e.at_ : Int))).setCell ⟨q, 5, none⟩ (.int .i64 (e.nth : Int))) := by
  refine ⟨h.os, h.tape, h.output, by rw [set_size, set_size, set_size]; exact h.size, fun k hk hU => ?_⟩
  have hne : k ≠ q := fun e => hU (by rw [e]; exact hq)
  rw [Below.heap_setCell _ ⟨q, 5, none⟩ _ k hne, Below.heap_setCell _ ⟨q, 4, none⟩ _ k hne, Below.heap_setCell _ ⟨q, 3, none⟩ _ k hne]
  exact h.block k hk hU
theorem SAfter.end_ {w W : World} {U U' : Nat → Prop} {q a base name m v ix} (h : SegM W U' q a base name m v ix) (h1 : ∀ k, U' k → U k ∨ w.heap.size ≤ k) (h2 : ∀ k, U k → U' k) (hk : Keeps U w W) (hq : U q) (e : Mk) :
    SAfter U w (((W.setCell ⟨q, 3, none⟩ (.int .i64 (e.base : Int))).setCell ⟨q, 4, none⟩ (.int .i64 (e.at_ : Int))).setCell ⟨q, 5, none⟩ (.int .i64 (e.nth : Int))) q a base name e ix :=
  ⟨U', v, h.setEnd e h.off, h1, h2, keeps_end hk hq e⟩

set_option maxHeartbeats 3200000 in
theorem add_no {w : World} {U q a base name m v} {ix : List Mk} {x : Mk} (h : SegM w U q a base name m v (ix ++ [x])) (hlen : ix.length ≤ 5000) (hb : m.at_ ≤ 100000000 ∧ x.at_ ≤ 100000000) (hN : ¬ 256 ≤ (m.at_ : Int) - (x.at_ : Int)) (e : Mk) :
    Calls Try.prog 33 #[.pointer (some ⟨q, 0, none⟩), .agg #[.int .i64 (e.base : Int), .int .i64 (e.at_ : Int), .int .i64 (e.nth : Int)]] w fun en w' => en = .returned (.tuple #[]) ∧ SAfter U w w' q a base name e (ix ++ [x]) := by
  obtain ⟨oa, cap, rfl, hcap, hcm, hoa⟩ := h.shape
  obtain ⟨g, rfl⟩ := hoa (by simp)
  have hq := h.below q h.self
  have hb1 : Below w.heap.size w (w.alloc (.cells #[.int .i64 (e.base : Int), .int .i64 (e.at_ : Int), .int .i64 (e.nth : Int)] 61)) := (Below.refl _ _).alloc (Nat.le_refl _) _
  have h1 := h.under hb1
  have HE := hid (heap_alloc_new w (.cells #[.int .i64 (e.base : Int), .int .i64 (e.at_ : Int), .int .i64 (e.nth : Int)] 61))
  have HW := hid hb1
  have HH := hid h
  obtain ⟨k0, k1, k2, k3, k4, k5, k6⟩ := h1.c
  have f3 := h1.f 3
  have f4 := h1.f 4
  have f5 := h1.f 5
  have f6 := h1.f 6
  have hqn : ¬ q = w.heap.size := by omega
  have hqn2 : ¬ w.heap.size = q := by omega
  have hxi : (ix ++ [x])[ix.length]? = some x := by simp
  obtain ⟨_, r1, _⟩ := h1.at_ ix.length x hxi
  have hll : (ix ++ [x]).length = ix.length + 1 := by simp
  have HZ : Hid (∀ n, SAfter U w (((((w.alloc (.cells #[.int .i64 (e.base : Int), .int .i64 (e.at_ : Int), .int .i64 (e.nth : Int)] 61)).drewN n).setCell ⟨q, 3, none⟩ (.int .i64 (e.base : Int))).setCell ⟨q, 4, none⟩ (.int .i64 (e.at_ : Int))).setCell ⟨q, 5, none⟩ (.int .i64 (e.nth : Int))) q a base name e (ix ++ [x])) := fun n =>
    SAfter.end_ (h.under (below_drewN hb1 n)) (fun k hk => .inl hk) (fun k hk => hk) (Keeps.of_below (below_drewN hb1 n)) h.self e
  rw [hll] at k6 hcap
  have e0 := cell_at HE.out (j := 0) rfl
  have e1 := cell_at HE.out (j := 1) rfl
  have e2 := cell_at HE.out (j := 2) rfl
  clear h h1 hb1 hxi hoa HH HW HE
  obtain ⟨hb2, hb3⟩ := hb
  have hd0 : decide (256 ≤ (m.at_ : Int) - (x.at_ : Int)) = false := by simpa using hN
  generalize ix.length = L at *
  have hd1 : decide ((L : Int) < 0) = false := by simp
  have hd2 : (L : Int) < (L : Int) + 1 := by omega
  go_enter Try.func33, Try.ntmps33
  go_wp2_with fail
  generalize w.alloc (.cells #[.int .i64 (e.base : Int), .int .i64 (e.at_ : Int), .int .i64 (e.nth : Int)] 61) = W1 at *
  go_quiet (fail)
  go_wp2_with fail
  go_end0
  exact ⟨rfl, HZ.out _⟩

set_option maxHeartbeats 3200000 in
theorem add_yes {w : World} {U q a base name m v} {ix : List Mk} (h : SegM w U q a base name m v ix) (hlen : ix.length ≤ 5000) (hb : m.at_ ≤ 100000000 ∧ ∀ x ∈ ix, x.at_ ≤ 100000000) (hY : addB ix m = true) (e : Mk) :
    Calls Try.prog 33 #[.pointer (some ⟨q, 0, none⟩), .agg #[.int .i64 (e.base : Int), .int .i64 (e.at_ : Int), .int .i64 (e.nth : Int)]] w fun en w' => en = .returned (.tuple #[]) ∧ SAfter U w w' q a base name e (ix ++ [m]) := by
  obtain ⟨i0, hi0, hz0, hz1, hz2⟩ := info61
  obtain ⟨oa, cap, rfl, hcap, hcm, hoa⟩ := h.shape
  have hq := h.below q h.self
  have hb1 : Below w.heap.size w (w.alloc (.cells #[.int .i64 (e.base : Int), .int .i64 (e.at_ : Int), .int .i64 (e.nth : Int)] 61)) := (Below.refl _ _).alloc (Nat.le_refl _) _
  have h1 := h.under hb1
  have HE := hid (heap_alloc_new w (.cells #[.int .i64 (e.base : Int), .int .i64 (e.at_ : Int), .int .i64 (e.nth : Int)] 61))
  have HW := hid hb1
  have HH := hid h
  obtain ⟨k0, k1, k2, k3, k4, k5, k6⟩ := h1.c
  have f3 := h1.f 3
  have f4 := h1.f 4
  have f5 := h1.f 5
  have f6 := h1.f 6
  have hqn : ¬ q = w.heap.size := by omega
  have hqn2 : ¬ w.heap.size = q := by omega
  have e0 := cell_at HE.out (j := 0) rfl
  have e1 := cell_at HE.out (j := 1) rfl
  have e2 := cell_at HE.out (j := 2) rfl
  have hsz1 : (w.alloc (.cells #[.int .i64 (e.base : Int), .int .i64 (e.at_ : Int), .int .i64 (e.nth : Int)] 61)).heap.size = w.heap.size + 1 := by simp
  have hBW : ∀ n, Below w.heap.size w (((w.alloc (.cells #[.int .i64 (e.base : Int), .int .i64 (e.at_ : Int), .int .i64 (e.nth : Int)] 61)).drewN n).alloc (.cells #[.int .i64 (m.base : Int), .int .i64 (m.at_ : Int), .int .i64 (m.nth : Int)] 61)) := fun n => (below_drewN hb1 n).alloc (by show w.heap.size ≤ (w.alloc (.cells #[.int .i64 (e.base : Int), .int .i64 (e.at_ : Int), .int .i64 (e.nth : Int)] 61)).heap.size; omega) _
  have HROW : Hid (∀ n, (((w.alloc (.cells #[.int .i64 (e.base : Int), .int .i64 (e.at_ : Int), .int .i64 (e.nth : Int)] 61)).drewN n).alloc (.cells #[.int .i64 (m.base : Int), .int .i64 (m.at_ : Int), .int .i64 (m.nth : Int)] 61)).ownsRow 0 61 3 (.slice oa ix.length cap) ix.length (flatM ix)) := fun n => (h.under (hBW n)).row
  have HNEW : Hid (∀ n, ∀ j u, (mcells m)[j]? = some u → (((w.alloc (.cells #[.int .i64 (e.base : Int), .int .i64 (e.at_ : Int), .int .i64 (e.nth : Int)] 61)).drewN n).alloc (.cells #[.int .i64 (m.base : Int), .int .i64 (m.at_ : Int), .int .i64 (m.nth : Int)] 61)).cell? ((⟨w.heap.size + 1, 0, none⟩ : Addr).add j) = some u) := fun n j u hu => by
    have hadd : (⟨w.heap.size + 1, 0, none⟩ : Addr).add j = ⟨w.heap.size + 1, j, none⟩ := by unfold Addr.add; split <;> simp_all
    rw [hadd]
    have e : (((w.alloc (.cells #[.int .i64 (e.base : Int), .int .i64 (e.at_ : Int), .int .i64 (e.nth : Int)] 61)).drewN n).alloc (.cells #[.int .i64 (m.base : Int), .int .i64 (m.at_ : Int), .int .i64 (m.nth : Int)] 61)).heap[w.heap.size + 1]? = some (.cells #[.int .i64 (m.base : Int), .int .i64 (m.at_ : Int), .int .i64 (m.nth : Int)] 61) := by
      have := heap_alloc_new ((w.alloc (.cells #[.int .i64 (e.base : Int), .int .i64 (e.at_ : Int), .int .i64 (e.nth : Int)] 61)).drewN n) (.cells #[.int .i64 (m.base : Int), .int .i64 (m.at_ : Int), .int .i64 (m.nth : Int)] 61)
      rw [show ((w.alloc (.cells #[.int .i64 (e.base : Int), .int .i64 (e.at_ : Int), .int .i64 (e.nth : Int)] 61)).drewN n).heap.size = w.heap.size + 1 from hsz1] at this
      exact this
    exact cell_at e (by simpa [mcells] using hu)
  have HG : Hid (∀ n w5 g c, w5.ownsRow 0 61 3 (.slice (some ⟨g, 0, none⟩) (ix.length + 1) c) (ix.length + 1) (flatM ix ++ mcells m) → (((w.alloc (.cells #[.int .i64 (e.base : Int), .int .i64 (e.at_ : Int), .int .i64 (e.nth : Int)] 61)).drewN n).alloc (.cells #[.int .i64 (m.base : Int), .int .i64 (m.at_ : Int), .int .i64 (m.nth : Int)] 61)).grownBy w5 (Value.slice oa ix.length cap).ownBlock → ((Value.slice oa ix.length cap).ownBlock = some g ∨ g = w.heap.size + 2) →
      (w5.cell? ⟨w.heap.size, 0, none⟩ = some (.int .i64 (e.base : Int)) ∧ w5.cell? ⟨w.heap.size, 1, none⟩ = some (.int .i64 (e.at_ : Int)) ∧ w5.cell? ⟨w.heap.size, 2, none⟩ = some (.int .i64 (e.nth : Int))) ∧ w5.cell? ⟨q, 6, none⟩ = some (.slice oa ix.length cap) ∧ (w5.cell? ⟨q, 3, none⟩ = some (.int .i64 (m.base : Int)) ∧ w5.cell? ⟨q, 4, none⟩ = some (.int .i64 (m.at_ : Int)) ∧ w5.cell? ⟨q, 5, none⟩ = some (.int .i64 (m.nth : Int))) ∧ (∀ j, w5.frozen? ⟨q, j, none⟩ = false) ∧
      SAfter U w ((((w5.setCell ⟨q, 6, none⟩ (.slice (some ⟨g, 0, none⟩) (ix.length + 1) c)).setCell ⟨q, 3, none⟩ (.int .i64 (e.base : Int))).setCell ⟨q, 4, none⟩ (.int .i64 (e.at_ : Int))).setCell ⟨q, 5, none⟩ (.int .i64 (e.nth : Int))) q a base name e (ix ++ [m])) := fun n w5 g c ho hg hat => by
    have hbw := hBW n
    have hszW : (((w.alloc (.cells #[.int .i64 (e.base : Int), .int .i64 (e.at_ : Int), .int .i64 (e.nth : Int)] 61)).drewN n).alloc (.cells #[.int .i64 (m.base : Int), .int .i64 (m.at_ : Int), .int .i64 (m.nth : Int)] 61)).heap.size = w.heap.size + 2 := by
      show (((w.alloc (.cells #[.int .i64 (e.base : Int), .int .i64 (e.at_ : Int), .int .i64 (e.nth : Int)] 61)).drewN n).heap.push _).size = _
      rw [Array.size_push]
      show (w.alloc (.cells #[.int .i64 (e.base : Int), .int .i64 (e.at_ : Int), .int .i64 (e.nth : Int)] 61)).heap.size + 1 = _
      omega
    have hl : (ix ++ [m]).length = ix.length + 1 := by simp
    have hfl : flatM (ix ++ [m]) = flatM ix ++ mcells m := by rw [flatM_append]; simp [flatM]
    obtain ⟨s1, s2⟩ := h.grown hbw hg (v' := .slice (some ⟨g, 0, none⟩) (ix.length + 1) c) (ix' := ix ++ [m]) (by rw [hl, hfl]; exact ho) (fun k hk => by
      have hk' : g = k := by cases hk; rfl
      rcases hat with h1 | h1
      · exact .inl (by rw [← hk']; exact h1)
      · exact .inr (by omega))
    have hbe : w5.heap[w.heap.size]? = some (.cells #[.int .i64 (e.base : Int), .int .i64 (e.at_ : Int), .int .i64 (e.nth : Int)] 61) := by
      rw [hg.block w.heap.size (by omega) (fun e => by have := h.below _ (h.rowU _ e.symm); omega), Below.heap_alloc _ _ _ (by show w.heap.size < (w.alloc (.cells #[.int .i64 (e.base : Int), .int .i64 (e.at_ : Int), .int .i64 (e.nth : Int)] 61)).heap.size; omega)]
      exact heap_alloc_new w _
    have hbq : w5.heap[q]? = w.heap[q]? := by
      rw [hg.block q (by omega) (fun e => h.off e.symm)]
      exact hbw.block q hq
    have hcq := hbq.trans h.cells
    exact ⟨⟨cell_at hbe rfl, cell_at hbe rfl, cell_at hbe rfl⟩, cell_at hcq rfl, ⟨cell_at hcq rfl, cell_at hcq rfl, cell_at hcq rfl⟩, fun j => frozen_blk hcq j, SAfter.end_ s1 (fun k hk => hk.imp id (fun h => h.1)) (fun k hk => .inl hk) s2 h.self e⟩
  have hcases : (ix.length = 0) ∨ ∃ iy x, ix = iy ++ [x] ∧ 256 ≤ (m.at_ : Int) - (x.at_ : Int) := by
    rcases List.eq_nil_or_concat ix with h0 | ⟨iy, x, h0⟩
    · exact .inl (by rw [h0]; rfl)
    · refine .inr ⟨iy, x, by simpa using h0, ?_⟩
      unfold addB at hY
      rw [h0] at hY
      simpa using hY
  have hone : ∀ u ∈ mcells m, u.oneCell' = true := by intro u hu; simp [mcells] at hu; rcases hu with rfl | rfl | rfl <;> rfl
  have HONE := hid hone
  clear hone
  rcases hcases with h0 | ⟨iy, x, hxy, h256⟩
  · have H00 := hid h0
    generalize flatM ix = FM at *
    generalize ix ++ [m] = IX at *
    generalize ix.length = L at *
    subst h0
    clear h h1 hb1 HH HW HE hoa hBW
    have hd1 : decide ((0 : Int) - 1 < 0) = true := by decide
    go_enter Try.func33, Try.ntmps33
    go_wp2_with fail
    generalize w.alloc (.cells #[.int .i64 (e.base : Int), .int .i64 (e.at_ : Int), .int .i64 (e.nth : Int)] 61) = W1 at *
    go_quiet (fail)
    go_wp2_with fail
    go_region_law (first
      | (refine step_append_lies _ (by rfl) (.tmp 34) (.tmp 39) 62 (by rfl) 0 61 i0 _ 3 24 Try.underlying62 hi0 hz0 hz1 hz2 rfl (by decide) (.slice oa 0 cap) 0 FM (by simp [Act.eval, Act.put]) (by exact HROW.out _) ⟨w.heap.size + 1, 0, none⟩ 1 1 (mcells m) (by simp [Act.eval, Act.put, hsz1]) rfl (by exact HNEW.out _) HONE.out (by decide) (by unfold maxLen; omega) (by omega) (Nat.zero_le _) (w.heap.size + 2) (by simp [hsz1]) ?_; intro g c w5 hown5 hg5 hat5 hlt5; obtain ⟨⟨y0, y1, y2⟩, y6, ⟨y3, y4, y5⟩, yf, hfin⟩ := HG.out _ w5 g c hown5 hg5 hat5; have HF := hid hfin; clear hfin hown5 hg5 hat5)
      | fail)
    all_goals
      go_wp2_with fail
      go_end0
      exact ⟨rfl, HF.out⟩
  · have hll : ix.length = iy.length + 1 := by rw [hxy]; simp
    have hxi : ix[iy.length]? = some x := by rw [hxy]; simp
    obtain ⟨g0, rfl⟩ := hoa (by omega)
    obtain ⟨_, r1, _⟩ := h1.at_ iy.length x hxi
    have hx8 : x.at_ ≤ 100000000 := hb.2 x (by rw [hxy]; simp)
    obtain ⟨hb2, _⟩ := hb
    generalize flatM ix = FM at *
    generalize ix ++ [m] = IX at *
    generalize hLL : ix.length = LL at *
    generalize iy.length = L at *
    clear h h1 hb1 HH HW HE hoa hBW hxi hxy hLL
    subst hll
    have hd0 : decide (256 ≤ (m.at_ : Int) - (x.at_ : Int)) = true := by simpa using h256
    have hd1 : decide ((L : Int) < 0) = false := by simp
    have hd2 : (L : Int) < (L : Int) + 1 := by omega
    go_enter Try.func33, Try.ntmps33
    go_wp2_with fail
    generalize w.alloc (.cells #[.int .i64 (e.base : Int), .int .i64 (e.at_ : Int), .int .i64 (e.nth : Int)] 61) = W1 at *
    go_quiet (fail)
    go_wp2_with fail
    go_region_law (first
      | (refine step_append_lies _ (by rfl) (.tmp 34) (.tmp 39) 62 (by rfl) 0 61 i0 _ 3 24 Try.underlying62 hi0 hz0 hz1 hz2 rfl (by decide) (.slice (some ⟨g0, 0, none⟩) (L + 1) cap) (L + 1) FM (by simp [Act.eval, Act.put]) (by exact HROW.out _) ⟨w.heap.size + 1, 0, none⟩ 1 1 (mcells m) (by simp [Act.eval, Act.put, hsz1]) rfl (by exact HNEW.out _) HONE.out (by decide) (by unfold maxLen; omega) (by omega) (Nat.zero_le _) (w.heap.size + 2) (by simp [hsz1]) ?_; intro g c w5 hown5 hg5 hat5 hlt5; obtain ⟨⟨y0, y1, y2⟩, y6, ⟨y3, y4, y5⟩, yf, hfin⟩ := HG.out _ w5 g c hown5 hg5 hat5; have HF := hid hfin; clear hfin hown5 hg5 hat5)
      | fail)
    all_goals
      go_wp2_with fail
      go_end0
      exact ⟨rfl, HF.out⟩
end Go.Proofs.Ytlgaianlkbaedaa

