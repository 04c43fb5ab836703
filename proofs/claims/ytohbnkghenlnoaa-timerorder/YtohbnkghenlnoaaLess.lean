/- cmp.Compare, cmp.Or, queue.Len and queue.Less. -/
import Derived.Test.YtohbnkghenlnoaaBase
import Derived.Deep.RegionLaw
import Derived.Test.YtohbnkghenlnoaaTail
import Derived.Handy
namespace Go.Proofs.Ytohbnkghenlnoaa
open Go.RowKit Go.Maps
set_option maxRecDepth 100000
set_option linter.unusedSimpArgs false
set_option linter.unusedVariables false

theorem ret_int {x y : Int} (h : x = y) : Ending.returned (.int .i64 x) = .returned (.int .i64 y) := by rw [h]
theorem ret_bool {x y : Bool} (h : x = y) : Ending.returned (.bool x) = .returned (.bool y) := by rw [h]

theorem below_drewN {B : Nat} {a w : World} (h : Below B a w) (n : Nat) : Below B a (w.drewN n) := ⟨h.os, h.tape, h.output, h.size, h.block⟩
theorem cell_new {W : World} {cs : Array Value} {t : TypeId} {b j : Nat} {v : Value} (hb : b = W.heap.size) (hv : cs[j]? = some v) : (W.alloc (.cells cs t)).cell? ⟨b, j, none⟩ = some v := by
  subst hb
  have e : (W.alloc (.cells cs t)).heap[W.heap.size]? = some (.cells cs t) := by show (W.heap.push _)[W.heap.size]? = _; simp
  unfold World.cell?
  rw [e]
  exact hv

def cmpI (x y : Int) : Int := if x < y then -1 else if y < x then 1 else 0

theorem cmp_any (x y : Int) (w : World) : Calls Try.prog 52 #[.int .i64 x, .int .i64 y] w fun e w' => e = .returned (.int .i64 (cmpI x y)) ∧ w' = w := by
  go_enter Try.func52, Try.ntmps52
  by_cases h : x < y
  · have e : Hid (cmpI x y = -1) := by show _ = _; rw [cmpI, if_pos h]
    go_wp2
    go_ret
    exact ⟨ret_int e.out.symm, rfl⟩
  · by_cases h2 : y < x
    · have e : Hid (cmpI x y = 1) := by show _ = _; rw [cmpI, if_neg h, if_pos h2]
      go_wp2
      go_ret
      exact ⟨ret_int e.out.symm, rfl⟩
    · have e : Hid (cmpI x y = 0) := by show _ = _; rw [cmpI, if_neg h, if_neg h2]
      go_wp2
      go_ret
      exact ⟨ret_int e.out.symm, rfl⟩

def orI (x y : Int) : Int := if x = 0 then y else x

set_option maxHeartbeats 400000 in
theorem or_any (x y : Int) (b : Nat) (w : World) (c0 : w.cell? ⟨b, 0, none⟩ = some (.int .i64 x)) (c1 : w.cell? ⟨b, 1, none⟩ = some (.int .i64 y)) :
    Calls Try.prog 51 #[.slice (some ⟨b, 0, none⟩) 2 2] w fun e w' => e = .returned (.int .i64 (orI x y)) ∧ w' = w := by
  go_enter Try.func51, Try.ntmps51
  go_wp2
  go_loop [8] (fun i0 => ∃ k : Nat, k ≤ 2 ∧ i0 = .int .i64 (k : Int) ∧ Hid ((0 < k → x = 0) ∧ (1 < k → y = 0))) (fun i0 => 2 - (intOf i0).toNat)
  case atStart => exact ⟨0, by omega, rfl, fun h => by omega, fun h => by omega⟩
  case round =>
    obtain ⟨k, hk, rfl, hI⟩ := hrel
    by_cases k0 : k = 0
    · subst k0
      by_cases hx : x = 0
      · subst hx
        go_wp2
        go_round
        case rel => exact ⟨1, by omega, by go_num, fun _ => by trivial, fun h => by omega⟩
        case measure => simp [intOf]
      · have e : Hid (orI x y = x) := by show _ = _; rw [orI, if_neg hx]
        go_wp2
        go_ret
        exact ⟨ret_int e.out.symm, rfl⟩
    · have hx := hI.out.1 (by omega)
      by_cases k1 : k = 1
      · subst k1
        by_cases hy : y = 0
        · subst hy
          go_wp2
          go_round
          case rel => exact ⟨2, by omega, by go_num, fun _ => hx, fun h => by trivial⟩
          case measure => simp [intOf]
        · have e : Hid (orI 0 y = y) := by show _ = _; rw [orI, if_pos rfl]
          go_wp2
          go_ret
          exact ⟨ret_int e.out.symm, rfl⟩
      · have k2 : k = 2 := by omega
        subst k2
        have hy := hI.out.2 (by omega)
        have e : Hid (orI 0 0 = 0) := by show _ = _; rw [orI, if_pos rfl]
        go_wp2
        go_ret
        exact ⟨ret_int e.out.symm, rfl⟩

theorem or_cmp (x y : Tm) : decide (orI (cmpI x.tick y.tick) (cmpI x.key y.key) < 0) = bef x y := by
  unfold orI cmpI
  rw [Bool.eq_iff_iff, bef_iff, decide_eq_true_eq]
  by_cases h1 : x.tick < y.tick
  · simp [h1]
  · by_cases h2 : y.tick < x.tick
    · simp [h1, h2]; omega
    · have h3 : x.tick = y.tick := by omega
      by_cases h4 : x.key < y.key
      · simp [h1, h2, h3, h4]
      · by_cases h5 : y.key < x.key <;> simp [h1, h2, h3, h4, h5]

theorem QM.c0 {w : World} {S : Nat → Prop} {a : Nat} {v : Value} {mo : Option Nat} {l : List Tm} {ps : List (Int × Int)} (h : QM w S a v mo l ps) : w.cell? ⟨a, 0, none⟩ = some v := by simp [World.cell?, h.cells]
theorem QM.c1 {w : World} {S : Nat → Prop} {a : Nat} {v : Value} {mo : Option Nat} {l : List Tm} {ps : List (Int × Int)} (h : QM w S a v mo l ps) : w.cell? ⟨a, 1, none⟩ = some (.map mo) := by simp [World.cell?, h.cells]
theorem QM.f0 {w : World} {S : Nat → Prop} {a : Nat} {v : Value} {mo : Option Nat} {l : List Tm} {ps : List (Int × Int)} (h : QM w S a v mo l ps) : w.frozen? ⟨a, 0, none⟩ = false := by simp [World.frozen?, h.cells]
theorem QM.f1 {w : World} {S : Nat → Prop} {a : Nat} {v : Value} {mo : Option Nat} {l : List Tm} {ps : List (Int × Int)} (h : QM w S a v mo l ps) : w.frozen? ⟨a, 1, none⟩ = false := by simp [World.frozen?, h.cells]

theorem QM.shape {w : World} {S : Nat → Prop} {a : Nat} {v : Value} {mo : Option Nat} {l : List Tm} {ps : List (Int × Int)} (h : QM w S a v mo l ps) : ∃ oa cap, v = .slice oa l.length cap ∧ l.length ≤ cap ∧ cap ≤ maxLen ∧ (0 < l.length → ∃ b, oa = some ⟨b, 0, none⟩ ∧ S b ∧ b ≠ a) ∧ (∀ x, oa = some x → ∃ b, x = ⟨b, 0, none⟩ ∧ S b ∧ b ≠ a) := by
  have hS := h.rowS
  obtain ⟨_, ⟨e, h0⟩ | ⟨b, cap, cur, e, hb, hg, hn, hc, hs, ht⟩⟩ := h.row
  · exact ⟨none, 0, by rw [e, h0], by omega, Nat.zero_le _, fun h => by omega, fun x e => by cases e⟩
  · have hb' : S b := hS b (by rw [e]; rfl)
    have hne : b ≠ a := fun e => by
      subst e
      rw [h.cells] at hg
      simp only [Option.some.injEq, Obj.cells.injEq] at hg
      exact absurd hg.2.1 (by decide)
    exact ⟨some ⟨b, 0, none⟩, cap, e, hn, hc, fun _ => ⟨b, rfl, hb', hne⟩, fun x e => ⟨b, by cases e; rfl, hb', hne⟩⟩

theorem QM.at_ {w : World} {S : Nat → Prop} {a b cap : Nat} {mo : Option Nat} {l : List Tm} {ps : List (Int × Int)} (h : QM w S a (.slice (some ⟨b, 0, none⟩) l.length cap) mo l ps) (i : Nat) (hi : i < l.length) :
    w.cell? ⟨b, i * 2, none⟩ = some (.int .i64 (g l i).key) ∧ w.cell? ⟨b, i * 2 + 1, none⟩ = some (.int .i64 (g l i).tick) := by
  have hc := fun j u hu => h.row.cells (g := b) rfl j u hu
  have hadd : ∀ j, (⟨b, 0, none⟩ : Addr).add j = ⟨b, j, none⟩ := fun j => by unfold Addr.add; split <;> simp_all
  obtain ⟨h0, h1⟩ := flat_at l i _ (g_some hi)
  exact ⟨by have := hc _ _ h0; rw [hadd] at this; exact this, by have := hc _ _ h1; rw [hadd] at this; exact this⟩

theorem QM.kept {w w1 : World} {S : Nat → Prop} {a : Nat} {v : Value} {mo : Option Nat} {l : List Tm} {ps : List (Int × Int)} (h : QM w S a v mo l ps) (hb : ∀ k, S k → w1.heap[k]? = w.heap[k]?) (hs : w.heap.size ≤ w1.heap.size) : QM w1 S a v mo l ps := by
  refine ⟨fun k hk => Nat.lt_of_lt_of_le (h.below k hk) hs, h.self, (hb a h.self).trans h.cells, ⟨h.row.1, ?_⟩, h.rowS, h.map.kept (fun b e => hb b (h.mapS b e)), h.mapS, h.agree, h.few, h.rng⟩
  rcases h.row.2 with h0 | ⟨b, cap, cur, e, hb0, hg, rest⟩
  · exact .inl h0
  · exact .inr ⟨b, cap, cur, e, hb0, (hb b (h.rowS b (by rw [e]; rfl))).trans hg, rest⟩
theorem QM.under {w w1 : World} {S : Nat → Prop} {a : Nat} {v : Value} {mo : Option Nat} {l : List Tm} {ps : List (Int × Int)} (h : QM w S a v mo l ps) (hb : Below w.heap.size w w1) : QM w1 S a v mo l ps := h.kept (fun k hk => hb.block k (h.below k hk)) hb.size

theorem len_any {w : World} {S : Nat → Prop} {a : Nat} {v : Value} {mo : Option Nat} {l : List Tm} {ps : List (Int × Int)} (h : QM w S a v mo l ps) :
    Calls Try.prog 27 #[.pointer (some ⟨a, 0, none⟩)] w fun e w' => e = .returned (.int .i64 (l.length : Int)) ∧ w' = w := by
  have c0 := h.c0
  obtain ⟨oa, cap, rfl, _⟩ := h.shape
  clear h
  go_enter Try.func27, Try.ntmps27
  go_wp2
  go_ret
  exact ⟨rfl, rfl⟩

set_option maxHeartbeats 4000000 in
theorem less_any {w : World} {S : Nat → Prop} {a : Nat} {v : Value} {mo : Option Nat} {l : List Tm} {ps : List (Int × Int)} (h : QM w S a v mo l ps) (i j : Nat) (hi : i < l.length) (hj : j < l.length) :
    Calls Try.prog 47 #[.pointer (some ⟨a, 0, none⟩), .int .i64 (i : Int), .int .i64 (j : Int)] w fun e w' => e = .returned (.bool (bef (g l i) (g l j))) ∧ Below w.heap.size w w' := by
  obtain ⟨oa, cap, rfl, hcap, hcm, hoa, _⟩ := h.shape
  obtain ⟨b, rfl, hSb, hba⟩ := hoa (by omega)
  have c0 := h.c0
  obtain ⟨i0, i1⟩ := h.at_ i hi
  obtain ⟨j0, j1⟩ := h.at_ j hj
  have hiz : (i : Int) < (l.length : Int) := by omega
  have hjz : (j : Int) < (l.length : Int) := by omega
  have hal := h.below a h.self
  have hbl := h.below b hSb
  have hfin : Hid (decide (orI (cmpI (g l i).tick (g l j).tick) (cmpI (g l i).key (g l j).key) < 0) = bef (g l i) (g l j)) := or_cmp _ _
  clear h hoa
  generalize g l i = x at *
  generalize g l j = y at *
  go_enter Try.func47, Try.ntmps47
  go_wp2
  go_region
  all_goals
    go_wp2
    refine region_tail 10 (by kernel_rfl) (by kernel_rfl) ?_
    simp only [List.take_succ_cons, List.take_zero, List.drop_succ_cons, List.drop_zero]
    repeat (go_big_quiet_step ((go_at_call 52; exact (cmp_any _ _ _).mono fun e w' h => ⟨h.1, _, h.2⟩)))
    refine wpQuiet_nil ?_
    rintro _ ⟨nq, rfl⟩
    go_wp2_with (first
      | (go_at_call 51; refine (or_any (cmpI x.tick y.tick) (cmpI x.key y.key) _ _ (cell_new (by simp) rfl) (cell_new (by simp) rfl)).mono ?_; rintro e w' ⟨rfl, rfl⟩))
    go_ret
    exact ⟨ret_bool hfin.out, ((below_drewN (((Below.refl _ w).alloc (Nat.le_refl _) _).alloc (by simp) _) _).alloc (by simp; omega) _)⟩

end Go.Proofs.Ytohbnkghenlnoaa
