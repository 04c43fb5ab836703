/- A message's numbers, read. -/
import Derived.Test.YtocdlaoklagdoaaDoorRs
namespace Go.Proofs.YtocdlaoklagdoaaDoor
open Go.RowKit Go.Maps
set_option linter.unusedSimpArgs false
set_option linter.unusedVariables false
set_option maxRecDepth 100000

theorem size83 : (Tryd.prog.info? 83).map (·.size) = some 14 := by kernel_rfl
theorem someS_length (p : Int) : ∀ (n : Nat) (s : RS), (someS p n s).1.length = n
  | 0, s => rfl
  | n + 1, s => by simp [someS, someS_length p n s]
theorem list14 (L : List Int) (h : L.length = 14) : (ic L).toArray = #[.int .i64 (L.getD 0 0), .int .i64 (L.getD 1 0), .int .i64 (L.getD 2 0), .int .i64 (L.getD 3 0), .int .i64 (L.getD 4 0), .int .i64 (L.getD 5 0), .int .i64 (L.getD 6 0), .int .i64 (L.getD 7 0), .int .i64 (L.getD 8 0), .int .i64 (L.getD 9 0), .int .i64 (L.getD 10 0), .int .i64 (L.getD 11 0), .int .i64 (L.getD 12 0), .int .i64 (L.getD 13 0)] := by
  match L, h with
  | [a0, a1, a2, a3, a4, a5, a6, a7, a8, a9, a10, a11, a12, a13], _ => rfl

/-- Where readNumbers stands behind k numbers. -/
structure NumsAt (w : World) (q : Nat) (s : RS) (p : Int) (k : Nat) (wr : World) : Prop where
  rd : Pd wr q (someS p k s).2
  out : wr.heap[w.heap.size]? = some (.cells #[.int .i64 0, .int .i64 0, .int .i64 0, .int .i64 0, .int .i64 0, .int .i64 0, .int .i64 0, .int .i64 0, .int .i64 0, .int .i64 0, .int .i64 0, .int .i64 0, .int .i64 0, .int .i64 0] 83)
  all : wr.heap[w.heap.size + 1]? = some (.cells (ic ((someS p k s).1 ++ List.replicate (14 - k) 0)).toArray 83)
  grown : w.grownBy wr (some q)
  size : w.heap.size + 2 ≤ wr.heap.size

theorem NumsAt.skip {w : World} {q : Nat} {s : RS} {p : Int} {k : Nat} {wr : World} (h : NumsAt w q s p k wr) (hk : k < 14) (hb : hasB p k = false) : NumsAt w q s p (k + 1) wr := by
  have e1 : (someS p (k + 1) s).2 = (someS p k s).2 := by simp [someS, optN, hb]
  have e2 : (someS p (k + 1) s).1 = (someS p k s).1 ++ [0] := by simp [someS, optN, hb]
  refine ⟨by rw [e1]; exact h.rd, h.out, ?_, h.grown, h.size⟩
  rw [h.all, e2, show 14 - k = (14 - (k + 1)) + 1 by omega, List.replicate_succ]
  simp
theorem NumsAt.next {w : World} {q : Nat} {s : RS} {p : Int} {k : Nat} {wr : World} (h : NumsAt w q s p k wr) (hq : q < w.heap.size) (hk : k < 14) (hb : hasB p k = true) {w1 : World} (hr : Pd w1 q (numS (someS p k s).2).2) (hg : wr.grownBy w1 (some q)) :
    w1.cell? ⟨w.heap.size + 1, k, none⟩ = some (.int .i64 0) ∧ w1.frozen? ⟨w.heap.size + 1, k, none⟩ = false ∧ NumsAt w q s p (k + 1) (w1.setCell ⟨w.heap.size + 1, k, none⟩ (.int .i64 (numS (someS p k s).2).1)) := by
  have hsz := h.size
  have hA : w1.heap[w.heap.size + 1]? = some (.cells (ic ((someS p k s).1 ++ List.replicate (14 - k) 0)).toArray 83) := (hg.block _ (by omega) (fun e => by cases e; omega)).trans h.all
  have hO : w1.heap[w.heap.size]? = some (.cells #[.int .i64 0, .int .i64 0, .int .i64 0, .int .i64 0, .int .i64 0, .int .i64 0, .int .i64 0, .int .i64 0, .int .i64 0, .int .i64 0, .int .i64 0, .int .i64 0, .int .i64 0, .int .i64 0] 83) := (hg.block _ (by omega) (fun e => by cases e; omega)).trans h.out
  have hl := someS_length p k s
  have e1 : (someS p (k + 1) s).2 = (numS (someS p k s).2).2 := by simp [someS, optN, hb]
  have e2 : (someS p (k + 1) s).1 = (someS p k s).1 ++ [(numS (someS p k s).2).1] := by simp [someS, optN, hb]
  refine ⟨cell_blk hA k _ ?_, frozen_blk hA k, by rw [e1]; exact hr.set _ _ _ (by omega), ?_, ?_, ?_, ?_⟩
  · simp only [ic, List.getElem?_toArray, List.getElem?_map]
    rw [List.getElem?_append_right (by omega), hl, Nat.sub_self, List.getElem?_replicate, if_pos (by omega)]
    rfl
  · rw [Below.heap_setCell w1 ⟨w.heap.size + 1, k, none⟩ _ w.heap.size (by simp)]
    exact hO
  · rw [setCell_eq_setRow w1 _ k _ 83 (0, 0) _ hA, setRow_heap w1 _ _ _ 83 (0, 0) hA, e2]
    congr 1
    congr 1
    apply Array.ext'
    simp only [List.setIfInBounds_toArray, ic]
    rw [show 14 - k = (14 - (k + 1)) + 1 by omega, List.replicate_succ]
    simp only [List.map_append, List.map_cons, List.append_assoc]
    rw [List.set_append, if_neg (by simp [hl]), List.length_map, hl, Nat.sub_self]
    rfl
  · exact grown_set (h.grown.trans hg) _ _ _ (by omega)
  · have h1 := hg.size
    have : (w1.setCell ⟨w.heap.size + 1, k, none⟩ (.int .i64 (numS (someS p k s).2).1)).heap.size = w1.heap.size := by simp [World.setCell]
    omega

set_option maxHeartbeats 1600000 in
theorem readNumbers_any {w : World} {q : Nat} {s : RS} (h : Pd w q s) (p : Int) (hp : I64 p) : Calls Tryd.prog 53 #[.pointer (some ⟨q, 0, none⟩), .int .i64 p] w fun e w' => e = .returned (.agg #[.int .i64 ((someS p 14 s).1.getD 0 0), .int .i64 ((someS p 14 s).1.getD 1 0), .int .i64 ((someS p 14 s).1.getD 2 0), .int .i64 ((someS p 14 s).1.getD 3 0), .int .i64 ((someS p 14 s).1.getD 4 0), .int .i64 ((someS p 14 s).1.getD 5 0), .int .i64 ((someS p 14 s).1.getD 6 0), .int .i64 ((someS p 14 s).1.getD 7 0), .int .i64 ((someS p 14 s).1.getD 8 0), .int .i64 ((someS p 14 s).1.getD 9 0), .int .i64 ((someS p 14 s).1.getD 10 0), .int .i64 ((someS p 14 s).1.getD 11 0), .int .i64 ((someS p 14 s).1.getD 12 0), .int .i64 ((someS p 14 s).1.getD 13 0)]) ∧ Pd w' q (someS p 14 s).2 ∧ w.grownBy w' (some q) := by
  have hlt := h.lt
  have HP := hid hp
  obtain ⟨L, hL⟩ : ∃ L, L = (someS p 14 s).1 := ⟨_, rfl⟩
  rw [← hL]
  have HL := hid hL
  clear hL
  have H0 : Hid (NumsAt w q s p 0 ((w.alloc (.cells #[.int .i64 0, .int .i64 0, .int .i64 0, .int .i64 0, .int .i64 0, .int .i64 0, .int .i64 0, .int .i64 0, .int .i64 0, .int .i64 0, .int .i64 0, .int .i64 0, .int .i64 0, .int .i64 0] 83)).alloc (.cells #[.int .i64 0, .int .i64 0, .int .i64 0, .int .i64 0, .int .i64 0, .int .i64 0, .int .i64 0, .int .i64 0, .int .i64 0, .int .i64 0, .int .i64 0, .int .i64 0, .int .i64 0, .int .i64 0] 83))) := by
    refine ⟨h.kept ?_, ?_, ?_, ?_, by simp⟩
    · rw [Below.heap_alloc _ _ q (by simp; omega), Below.heap_alloc _ _ q hlt]
    · rw [Below.heap_alloc _ _ _ (by simp)]; exact heap_alloc_new w _
    · have e : (w.alloc (.cells #[.int .i64 0, .int .i64 0, .int .i64 0, .int .i64 0, .int .i64 0, .int .i64 0, .int .i64 0, .int .i64 0, .int .i64 0, .int .i64 0, .int .i64 0, .int .i64 0, .int .i64 0, .int .i64 0] 83)).heap.size = w.heap.size + 1 := by simp
      rw [← e]
      exact heap_alloc_new (w.alloc (.cells #[.int .i64 0, .int .i64 0, .int .i64 0, .int .i64 0, .int .i64 0, .int .i64 0, .int .i64 0, .int .i64 0, .int .i64 0, .int .i64 0, .int .i64 0, .int .i64 0, .int .i64 0, .int .i64 0] 83)) (.cells #[.int .i64 0, .int .i64 0, .int .i64 0, .int .i64 0, .int .i64 0, .int .i64 0, .int .i64 0, .int .i64 0, .int .i64 0, .int .i64 0, .int .i64 0, .int .i64 0, .int .i64 0, .int .i64 0] 83)
    · exact (World.grownBy_alloc w _ _).trans (World.grownBy_alloc _ _ _)
  clear h hp
  go_enter Tryd.func53, Tryd.ntmps53
  go_wp2
  go_loopg [7] 14 (fun kx s7 wr => ∃ k : Nat, k ≤ 14 ∧ 14 - k ≤ kx ∧ s7 = .int .i64 k ∧ Hid (NumsAt w q s p k wr))
  case atStart => exact ⟨0, by omega, by omega, rfl, H0⟩
  case round =>
    obtain ⟨k, hk, hkx, rfl, HD⟩ := hrel
    clear H0
    by_cases hlt14 : k < 14
    · have hlt' : (k : Int) < 14 := by omega
      have HH := hid (fun W => has_any p HP.out k (by omega) W)
      have HN := hid (pnum_any HD.out.rd)
      cases hb : hasB p k with
      | false =>
        rw [hb] at HH
        have HF := hid (HD.out.skip hlt14 hb)
        clear HN hb
        go_wp2_with (go_at_call 54; refine (HH.out _).mono ?_; rintro e w1 ⟨rfl, rfl⟩)
        go_roundg (14 - (k + 1))
        case measure => omega
        case rel => exact ⟨k + 1, by omega, Nat.le_refl _, by go_num, HF⟩
      | true =>
        rw [hb] at HH
        have hX : Hid (∀ w1, Pd w1 q (numS (someS p k s).2).2 → wr.grownBy w1 (some q) → w1.cell? ⟨w.heap.size + 1, k, none⟩ = some (.int .i64 0) ∧ w1.frozen? ⟨w.heap.size + 1, k, none⟩ = false ∧ NumsAt w q s p (k + 1) (w1.setCell ⟨w.heap.size + 1, k, none⟩ (.int .i64 (numS (someS p k s).2).1))) := fun w1 h1 h2 => HD.out.next hlt hlt14 hb h1 h2
        clear hb
        generalize numS (someS p k s).2 = N at *
        obtain ⟨n, s1⟩ := N
        simp only at *
        go_wp2_with (first | (go_at_call 54; refine (HH.out _).mono ?_; rintro e w0 ⟨rfl, rfl⟩) | (go_at_call 51; refine HN.out.mono ?_; rintro e w1 ⟨rfl, hr1, hg1⟩; obtain ⟨x1, x2, x3⟩ := hX.out w1 hr1 hg1; have HF := hid x3; clear x3 hr1 hg1))
        go_roundg (14 - (k + 1))
        case measure => omega
        case rel => exact ⟨k + 1, by omega, Nat.le_refl _, by go_num, HF⟩
    · have hlt' : ¬ (k : Int) < 14 := by omega
      have hk5 : k = 14 := by omega
      subst hk5
      have HA : Hid (wr.heap[w.heap.size + 1]? = some (.cells #[.int .i64 (L.getD 0 0), .int .i64 (L.getD 1 0), .int .i64 (L.getD 2 0), .int .i64 (L.getD 3 0), .int .i64 (L.getD 4 0), .int .i64 (L.getD 5 0), .int .i64 (L.getD 6 0), .int .i64 (L.getD 7 0), .int .i64 (L.getD 8 0), .int .i64 (L.getD 9 0), .int .i64 (L.getD 10 0), .int .i64 (L.getD 11 0), .int .i64 (L.getD 12 0), .int .i64 (L.getD 13 0)] 83)) := by
        have := HD.out.all
        rw [Nat.sub_self, List.replicate_zero, List.append_nil, list14 _ (someS_length p 14 s)] at this
        rw [← HL.out] at this
        exact this
      have HO := hid HD.out.out
      have HG := hid HD.out
      clear HD
      go_wp2_with (first | (refine wpList_load_row rfl 83 _ rfl (w.heap.size + 1) rfl 83 _ (0, 0) _ HA.out Tryd.underlying83 rfl size83 ?_) | (refine wpList_store_row rfl 83 _ _ rfl w.heap.size #[.int .i64 (L.getD 0 0), .int .i64 (L.getD 1 0), .int .i64 (L.getD 2 0), .int .i64 (L.getD 3 0), .int .i64 (L.getD 4 0), .int .i64 (L.getD 5 0), .int .i64 (L.getD 6 0), .int .i64 (L.getD 7 0), .int .i64 (L.getD 8 0), .int .i64 (L.getD 9 0), .int .i64 (L.getD 10 0), .int .i64 (L.getD 11 0), .int .i64 (L.getD 12 0), .int .i64 (L.getD 13 0)] rfl rfl 83 _ HO.out size83 rfl (by simp [Value.oneCell']) ?_))
      refine bodyPost_ret (v := .agg #[.int .i64 (L.getD 0 0), .int .i64 (L.getD 1 0), .int .i64 (L.getD 2 0), .int .i64 (L.getD 3 0), .int .i64 (L.getD 4 0), .int .i64 (L.getD 5 0), .int .i64 (L.getD 6 0), .int .i64 (L.getD 7 0), .int .i64 (L.getD 8 0), .int .i64 (L.getD 9 0), .int .i64 (L.getD 10 0), .int .i64 (L.getD 11 0), .int .i64 (L.getD 12 0), .int .i64 (L.getD 13 0)]) (by exact results_cell_row Tryd.results53 _ _ w.heap.size 83 _ (0, 0) _ rfl (setRow_heap _ _ _ _ 83 (0, 0) HO.out) Tryd.underlying83 rfl size83) rfl ⟨rfl, ?_, ?_⟩
      · exact HG.out.rd.row _ _ (by omega)
      · exact grown_setRow HG.out.grown _ _ (Nat.le_refl _)

theorem below_setRow {w w3 : World} {B b : Nat} (hg : Below B w w3) (hb : B ≤ b) (cs : Array Value) : Below B w (w3.setRow b cs) :=
  ⟨hg.os, hg.tape, hg.output, by rw [setRow_size]; exact hg.size, fun k hk => (setRow_other w3 b k cs (by omega)).trans (hg.block k hk)⟩
/-- A message's cells. -/
def cells21 (k : Int) (L : List Int) (e : Int) (n t : List UInt8) (a b c : Value) : Array Value := #[.int .i64 k, .int .i64 (L.getD 0 0), .int .i64 (L.getD 1 0), .int .i64 (L.getD 2 0), .int .i64 (L.getD 3 0), .int .i64 (L.getD 4 0), .int .i64 (L.getD 5 0), .int .i64 (L.getD 6 0), .int .i64 (L.getD 7 0), .int .i64 (L.getD 8 0), .int .i64 (L.getD 9 0), .int .i64 (L.getD 10 0), .int .i64 (L.getD 11 0), .int .i64 (L.getD 12 0), .int .i64 (L.getD 13 0), .int .i64 e, .string (strOf n), .string (strOf t), a, b, c]
def nilV : Value := .slice none 0 0

set_option maxHeartbeats 1600000 in
theorem ofNumbers_any (L : List Int) (w : World) : Calls Tryd.prog 52 #[.agg #[.int .i64 (L.getD 0 0), .int .i64 (L.getD 1 0), .int .i64 (L.getD 2 0), .int .i64 (L.getD 3 0), .int .i64 (L.getD 4 0), .int .i64 (L.getD 5 0), .int .i64 (L.getD 6 0), .int .i64 (L.getD 7 0), .int .i64 (L.getD 8 0), .int .i64 (L.getD 9 0), .int .i64 (L.getD 10 0), .int .i64 (L.getD 11 0), .int .i64 (L.getD 12 0), .int .i64 (L.getD 13 0)]] w fun e w' => e = .returned (.agg (cells21 0 L 0 [] [] nilV nilV nilV)) ∧ Below w.heap.size w w' := by
  have HO : Hid (((w.alloc (.cells #[.int .i64 (L.getD 0 0), .int .i64 (L.getD 1 0), .int .i64 (L.getD 2 0), .int .i64 (L.getD 3 0), .int .i64 (L.getD 4 0), .int .i64 (L.getD 5 0), .int .i64 (L.getD 6 0), .int .i64 (L.getD 7 0), .int .i64 (L.getD 8 0), .int .i64 (L.getD 9 0), .int .i64 (L.getD 10 0), .int .i64 (L.getD 11 0), .int .i64 (L.getD 12 0), .int .i64 (L.getD 13 0)] 83)).alloc (.cells #[.int .i64 0, .int .i64 0, .int .i64 0, .int .i64 0, .int .i64 0, .int .i64 0, .int .i64 0, .int .i64 0, .int .i64 0, .int .i64 0, .int .i64 0, .int .i64 0, .int .i64 0, .int .i64 0, .int .i64 0, .int .i64 0, .string ⟨#[]⟩, .string ⟨#[]⟩, .slice none 0 0, .slice none 0 0, .slice none 0 0] 27)).heap[w.heap.size + 1]? = some (.cells #[.int .i64 0, .int .i64 0, .int .i64 0, .int .i64 0, .int .i64 0, .int .i64 0, .int .i64 0, .int .i64 0, .int .i64 0, .int .i64 0, .int .i64 0, .int .i64 0, .int .i64 0, .int .i64 0, .int .i64 0, .int .i64 0, .string ⟨#[]⟩, .string ⟨#[]⟩, .slice none 0 0, .slice none 0 0, .slice none 0 0] 27)) := heap_alloc2_new w _ _
  go_enter Tryd.func52, Tryd.ntmps52
  go_wp2_with (refine wpList_store_row rfl 27 _ _ rfl (w.heap.size + 1) _ rfl rfl 27 _ HO.out size27 rfl (by simp [Value.oneCell']) ?_)
  refine bodyPost_ret (v := .agg (cells21 0 L 0 [] [] nilV nilV nilV)) (by exact results_cell_row Tryd.results52 _ _ (w.heap.size + 1) 27 _ (0, 0) _ rfl (setRow_heap _ _ _ _ 27 (0, 0) HO.out) Tryd.underlying27 rfl size27) rfl ⟨rfl, ?_⟩
  have hb : Below w.heap.size w ((w.alloc (.cells #[.int .i64 (L.getD 0 0), .int .i64 (L.getD 1 0), .int .i64 (L.getD 2 0), .int .i64 (L.getD 3 0), .int .i64 (L.getD 4 0), .int .i64 (L.getD 5 0), .int .i64 (L.getD 6 0), .int .i64 (L.getD 7 0), .int .i64 (L.getD 8 0), .int .i64 (L.getD 9 0), .int .i64 (L.getD 10 0), .int .i64 (L.getD 11 0), .int .i64 (L.getD 12 0), .int .i64 (L.getD 13 0)] 83)).alloc (.cells #[.int .i64 0, .int .i64 0, .int .i64 0, .int .i64 0, .int .i64 0, .int .i64 0, .int .i64 0, .int .i64 0, .int .i64 0, .int .i64 0, .int .i64 0, .int .i64 0, .int .i64 0, .int .i64 0, .int .i64 0, .int .i64 0, .string ⟨#[]⟩, .string ⟨#[]⟩, .slice none 0 0, .slice none 0 0, .slice none 0 0] 27)) := ((Below.refl _ _).alloc (Nat.le_refl _) _).alloc (by simp) _
  exact below_setRow hb (by omega) _
end Go.Proofs.YtocdlaoklagdoaaDoor
