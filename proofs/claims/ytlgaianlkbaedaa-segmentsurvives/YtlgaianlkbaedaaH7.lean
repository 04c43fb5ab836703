/- The five numbers that a body begins with. -/
import Derived.Test.YtlgaianlkbaedaaH6
namespace Go.Proofs.Ytlgaianlkbaedaa
open Go.RowKit Go.Maps
set_option linter.unusedSimpArgs false
set_option linter.unusedVariables false
set_option maxRecDepth 100000

def ic (l : List Int) : List Value := l.map (Value.int .i64)
theorem numsS_length : ∀ (n : Nat) (s : RS), (numsS n s).1.length = n
  | 0, s => rfl
  | n + 1, s => by simp [numsS, numsS_length n s]

/-- Where five stands behind k numbers. -/
structure FiveAt (w : World) (q : Nat) (s : RS) (k : Nat) (wr : World) : Prop where
  rd : Rd wr q (numsS k s).2
  out : wr.heap[w.heap.size]? = some (.cells #[.int .i64 0, .int .i64 0, .int .i64 0, .int .i64 0, .int .i64 0] 105)
  all : wr.heap[w.heap.size + 1]? = some (.cells (ic ((numsS k s).1 ++ List.replicate (5 - k) 0)).toArray 105)
  grown : w.grownBy wr (some q)
  size : w.heap.size + 2 ≤ wr.heap.size

theorem FiveAt.next {w : World} {q : Nat} {s : RS} {k : Nat} {wr : World} (h : FiveAt w q s k wr) (hq : q < w.heap.size) (hk : k < 5) {w1 : World} (hr : Rd w1 q (numS (numsS k s).2).2) (hg : wr.grownBy w1 (some q)) :
    w1.cell? ⟨w.heap.size + 1, k, none⟩ = some (.int .i64 0) ∧ w1.frozen? ⟨w.heap.size + 1, k, none⟩ = false ∧ FiveAt w q s (k + 1) (w1.setCell ⟨w.heap.size + 1, k, none⟩ (.int .i64 (numS (numsS k s).2).1)) := by
  have hsz := h.size
  have hA : w1.heap[w.heap.size + 1]? = some (.cells (ic ((numsS k s).1 ++ List.replicate (5 - k) 0)).toArray 105) := (hg.block _ (by omega) (fun e => by cases e; omega)).trans h.all
  have hO : w1.heap[w.heap.size]? = some (.cells #[.int .i64 0, .int .i64 0, .int .i64 0, .int .i64 0, .int .i64 0] 105) := (hg.block _ (by omega) (fun e => by cases e; omega)).trans h.out
  have hl := numsS_length k s
  refine ⟨cell_blk hA k _ ?_, frozen_blk hA k, hr.set _ _ _ (by omega), ?_, ?_, ?_, ?_⟩
  · simp only [ic, List.getElem?_toArray, List.getElem?_map]
    rw [List.getElem?_append_right (by omega), hl, Nat.sub_self, List.getElem?_replicate, if_pos (by omega)]
    rfl
  · rw [Below.heap_setCell w1 ⟨w.heap.size + 1, k, none⟩ _ w.heap.size (by simp)]
    exact hO
  · rw [setCell_eq_setRow w1 _ k _ 105 (0, 0) _ hA, setRow_heap w1 _ _ _ 105 (0, 0) hA]
    congr 1
    congr 1
    apply Array.ext'
    simp only [List.setIfInBounds_toArray, ic, numsS]
    rw [show 5 - k = (5 - (k + 1)) + 1 by omega, List.replicate_succ]
    simp only [List.map_append, List.map_cons, List.append_assoc]
    rw [List.set_append, if_neg (by simp [hl]), List.length_map, hl, Nat.sub_self]
    rfl
  · exact grown_set (h.grown.trans hg) _ _ _ (by omega)
  · have h1 := hg.size
    have : (w1.setCell ⟨w.heap.size + 1, k, none⟩ (.int .i64 (numS (numsS k s).2).1)).heap.size = w1.heap.size := by simp [World.setCell]
    omega

theorem five_list (s : RS) : ∃ n0 n1 n2 n3 n4, (numsS 5 s).1 = [n0, n1, n2, n3, n4] := by
  have := numsS_length 5 s
  match h : (numsS 5 s).1, this with
  | [n0, n1, n2, n3, n4], _ => exact ⟨_, _, _, _, _, rfl⟩

set_option maxHeartbeats 1600000 in
theorem five_any {w : World} {q : Nat} {s : RS} (h : Rd w q s) (n0 n1 n2 n3 n4 : Int) (hn : (numsS 5 s).1 = [n0, n1, n2, n3, n4]) : Calls Try.prog 78 #[.pointer (some ⟨q, 0, none⟩)] w fun e w' => e = .returned (.agg #[.int .i64 n0, .int .i64 n1, .int .i64 n2, .int .i64 n3, .int .i64 n4]) ∧ Rd w' q (numsS 5 s).2 ∧ w.grownBy w' (some q) := by
  have hlt := h.lt
  have HL := hid hn
  have H0 : Hid (FiveAt w q s 0 ((w.alloc (.cells #[.int .i64 0, .int .i64 0, .int .i64 0, .int .i64 0, .int .i64 0] 105)).alloc (.cells #[.int .i64 0, .int .i64 0, .int .i64 0, .int .i64 0, .int .i64 0] 105))) := by
    refine ⟨h.kept ?_, ?_, ?_, ?_, by simp⟩
    · rw [Below.heap_alloc _ _ q (by simp; omega), Below.heap_alloc _ _ q hlt]
    · rw [Below.heap_alloc _ _ _ (by simp)]; exact heap_alloc_new w _
    · have e : (w.alloc (.cells #[.int .i64 0, .int .i64 0, .int .i64 0, .int .i64 0, .int .i64 0] 105)).heap.size = w.heap.size + 1 := by simp
      rw [← e]
      exact heap_alloc_new (w.alloc (.cells #[.int .i64 0, .int .i64 0, .int .i64 0, .int .i64 0, .int .i64 0] 105)) (.cells #[.int .i64 0, .int .i64 0, .int .i64 0, .int .i64 0, .int .i64 0] 105)
    · exact (World.grownBy_alloc w _ _).trans (World.grownBy_alloc _ _ _)
  clear h hn
  go_enter Try.func78, Try.ntmps78
  go_wp2
  go_loopg [5] 5 (fun kx s5 wr => ∃ k : Nat, k ≤ 5 ∧ 5 - k ≤ kx ∧ s5 = .int .i64 k ∧ Hid (FiveAt w q s k wr))
  case atStart => exact ⟨0, by omega, by omega, rfl, H0⟩
  case round =>
    obtain ⟨k, hk, hkx, rfl, HD⟩ := hrel
    clear H0
    by_cases hlt5 : k < 5
    · have hlt' : (k : Int) < 5 := by omega
      have HN := hid (number_any HD.out.rd)
      have hX : Hid (∀ w1, Rd w1 q (numS (numsS k s).2).2 → wr.grownBy w1 (some q) → w1.cell? ⟨w.heap.size + 1, k, none⟩ = some (.int .i64 0) ∧ w1.frozen? ⟨w.heap.size + 1, k, none⟩ = false ∧ FiveAt w q s (k + 1) (w1.setCell ⟨w.heap.size + 1, k, none⟩ (.int .i64 (numS (numsS k s).2).1))) := fun w1 h1 h2 => HD.out.next hlt hlt5 h1 h2
      generalize numS (numsS k s).2 = N at *
      obtain ⟨n, s1⟩ := N
      simp only at *
      go_wp2_with (go_at_call 93; refine HN.out.mono ?_; rintro e w1 ⟨rfl, hr1, hg1⟩; obtain ⟨x1, x2, x3⟩ := hX.out w1 hr1 hg1; have HF := hid x3; clear x3 hr1 hg1)
      go_roundg (5 - (k + 1))
      case measure => omega
      case rel => exact ⟨k + 1, by omega, Nat.le_refl _, by go_num, HF⟩
    · have hlt' : ¬ (k : Int) < 5 := by omega
      have hk5 : k = 5 := by omega
      subst hk5
      have hA := HD.out.all
      have hO := HD.out.out
      rw [HL.out] at hA
      have a0 := cell_blk hA 0 (.int .i64 n0) rfl
      have a1 := cell_blk hA 1 (.int .i64 n1) rfl
      have a2 := cell_blk hA 2 (.int .i64 n2) rfl
      have a3 := cell_blk hA 3 (.int .i64 n3) rfl
      have a4 := cell_blk hA 4 (.int .i64 n4) rfl
      have o0 := cell_blk hO 0 (.int .i64 0) rfl
      have o1 := cell_blk hO 1 (.int .i64 0) rfl
      have o2 := cell_blk hO 2 (.int .i64 0) rfl
      have o3 := cell_blk hO 3 (.int .i64 0) rfl
      have o4 := cell_blk hO 4 (.int .i64 0) rfl
      have f0 := frozen_blk hO 0
      have f1 := frozen_blk hO 1
      have f2 := frozen_blk hO 2
      have f3 := frozen_blk hO 3
      have f4 := frozen_blk hO 4
      clear hA hO
      go_wp2
      refine bodyPost_ret (v := .agg #[.int .i64 n0, .int .i64 n1, .int .i64 n2, .int .i64 n3, .int .i64 n4]) (by simp [results, Try.results78, go_sem, o0, o1, o2, o3, o4]) rfl ⟨rfl, ?_, ?_⟩
      · exact ((((HD.out.rd.set _ _ _ (by omega)).set _ _ _ (by omega)).set _ _ _ (by omega)).set _ _ _ (by omega)).set _ _ _ (by omega)
      · exact grown_set (grown_set (grown_set (grown_set (grown_set HD.out.grown _ _ _ (Nat.le_refl _)) _ _ _ (Nat.le_refl _)) _ _ _ (Nat.le_refl _)) _ _ _ (Nat.le_refl _)) _ _ _ (Nat.le_refl _)
end Go.Proofs.Ytlgaianlkbaedaa

