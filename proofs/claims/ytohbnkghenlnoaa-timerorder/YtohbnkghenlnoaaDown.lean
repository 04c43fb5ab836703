/- heap.down over the queue. -/
import Derived.Test.YtohbnkghenlnoaaUp
namespace Go.Proofs.Ytohbnkghenlnoaa
open Go.RowKit Go.Maps
set_option maxRecDepth 100000
set_option linter.unusedSimpArgs false
set_option linter.unusedVariables false

theorem downL_end {l : List Tm} {i n : Nat} (h : n ≤ 2 * i + 1) : downL l i n = (l, i) := by rw [downL, dif_pos h]
theorem downL_stop {l : List Tm} {i n : Nat} (h : ¬ n ≤ 2 * i + 1) (hb : bef (g l (kid l i n)) (g l i) = false) : downL l i n = (l, i) := by rw [downL, dif_neg h, hb]; rfl
theorem downL_go {l : List Tm} {i n : Nat} (h : ¬ n ≤ 2 * i + 1) (hb : bef (g l (kid l i n)) (g l i) = true) : downL l i n = downL (swp l i (kid l i n)) (kid l i n) n := by rw [downL, dif_neg h, if_pos hb]

theorem lessAt {w wx : World} {S : Nat → Prop} {a : Nat} {v : Value} {mo : Option Nat} {l : List Tm} (h : QAt w wx S a v mo l) (x y : Nat) (hx : x < l.length) (hy : y < l.length) (ix iy : Int) (ex : ix = (x : Int)) (ey : iy = (y : Int)) :
    Calls Try.prog 47 #[.pointer (some ⟨a, 0, none⟩), .int .i64 ix, .int .i64 iy] wx fun e w' => e = .returned (.bool (bef (g l x) (g l y))) ∧ QAt w w' S a v mo l := by
  obtain ⟨ps', hq, hkp⟩ := h
  rw [ex, ey]
  exact (less_any hq x y hx hy).mono fun e w' ⟨he, hb⟩ => ⟨he, ps', hq.under hb, hkp.trans (.of_below hb)⟩
theorem swapAt {w wx : World} {S : Nat → Prop} {a : Nat} {v : Value} {mo : Option Nat} {l : List Tm} (h : QAt w wx S a v mo l) (x y : Nat) (hx : x < l.length) (hy : y < l.length) (ix iy : Int) (ex : ix = (x : Int)) (ey : iy = (y : Int)) :
    Calls Try.prog 50 #[.pointer (some ⟨a, 0, none⟩), .int .i64 ix, .int .i64 iy] wx fun e w' => e = .returned (.tuple #[]) ∧ QAt w w' S a v mo (swp l x y) := by
  obtain ⟨ps', hq, hkp⟩ := h
  rw [ex, ey]
  exact (swap_any hq x y hx hy).mono fun e w' ⟨he, ps2, hq2, hk2⟩ => ⟨he, ps2, hq2, hkp.trans hk2⟩

set_option maxHeartbeats 4000000 in
theorem down_any {w : World} {S : Nat → Prop} {a : Nat} {v : Value} {mo : Option Nat} {l : List Tm} {ps : List (Int × Int)} (h : QM w S a v mo l ps) (i n : Nat) (hi : i ≤ n) (hn : n ≤ l.length) :
    Calls Try.prog 28 #[qi a, .int .i64 (i : Int), .int .i64 (n : Int)] w fun e w' => e = .returned (.bool (decide (i < (downL l i n).2))) ∧ QAt w w' S a v mo (downL l i n).1 := by
  have mL := mLess a
  have mS := mSwap a
  have hfew := h.few
  have H0 : Hid (QAt w w S a v mo l) := ⟨ps, h, .refl S w⟩
  clear h
  unfold qi
  go_enter Try.func28, Try.ntmps28
  go_wp2
  go_loopg [7] (n - i) (fun kx s1 wr => ∃ (k : Nat) (lk : List Tm), s1 = .int .i64 (k : Int) ∧ k ≤ n ∧ n - k ≤ kx ∧ lk.length = l.length ∧ Hid (QAt w wr S a v mo lk) ∧ Hid (downL lk k n = downL l i n))
  case atStart => exact ⟨i, l, rfl, hi, Nat.le_refl _, rfl, H0, rfl⟩
  case round =>
    obtain ⟨k, lk, rfl, hk, hkx, hlen, HQ, HE⟩ := hrel
    by_cases h1 : n ≤ 2 * k + 1
    · have h1z : (n : Int) ≤ 2 * (k : Int) + 1 := by omega
      have HF : Hid (downL l i n = (lk, k)) := by show _ = _; rw [← HE.out, downL_end h1]
      clear HE
      have hd : Hid (decide ((i : Int) < (k : Int)) = decide (i < k)) := by show _ = _; rw [Bool.eq_iff_iff]; simp
      go_wp2
      go_ret
      rw [HF.out]
      exact ⟨rfl, HQ.out⟩
    · have h1z : ¬ (n : Int) ≤ 2 * (k : Int) + 1 := by omega
      have h1y : ¬ (2 * (k : Int) + 1 < 0) := by omega
      by_cases h2 : 2 * k + 2 < n
      · have h2z : 2 * (k : Int) + 1 + 1 < (n : Int) := by omega
        cases hb1 : bef (g lk (2 * k + 2)) (g lk (2 * k + 1)) with
        | true =>
          have hkid : kid lk k n = 2 * k + 2 := by unfold kid; rw [if_pos ⟨h2, hb1⟩]
          have HL1 := hid (lessAt HQ.out (2 * k + 2) (2 * k + 1) (by omega) (by omega) (2 * (k : Int) + 1 + 1) (2 * (k : Int) + 1) (by omega) (by omega))
          rw [hb1] at HL1
          cases hb2 : bef (g lk (2 * k + 2)) (g lk k) with
          | false =>
            have HF : Hid (downL l i n = (lk, k)) := by show _ = _; rw [← HE.out, downL_stop h1 (by rw [hkid]; exact hb2)]
            have HL2 : Hid (∀ wx, QAt w wx S a v mo lk → Calls Try.prog 47 #[.pointer (some ⟨a, 0, none⟩), .int .i64 (2 * (k : Int) + 1 + 1), .int .i64 (k : Int)] wx fun e w' => e = .returned (.bool false) ∧ QAt w w' S a v mo lk) := fun wx hq => by
              have := lessAt hq (2 * k + 2) k (by omega) (by omega) (2 * (k : Int) + 1 + 1) (k : Int) (by omega) rfl
              rw [hb2] at this
              exact this
            clear HE HQ hkid
            have hd : Hid (decide ((i : Int) < (k : Int)) = decide (i < k)) := by show _ = _; rw [Bool.eq_iff_iff]; simp
            go_wp2_with (first
              | (go_at_call 47; refine HL1.out.mono ?_; rintro e w' ⟨rfl, hq'⟩; have HQ' := hid hq'; clear hq' HL1)
              | (go_at_call 47; refine (HL2.out _ HQ'.out).mono ?_; rintro e w2 ⟨rfl, hq2⟩; have HQ2 := hid hq2; clear hq2))
            go_ret
            rw [HF.out]
            exact ⟨rfl, HQ2.out⟩
          | true =>
            have HF : Hid (downL (swp lk k (2 * k + 2)) (2 * k + 2) n = downL l i n) := by show _ = _; rw [← HE.out, downL_go (l := lk) (i := k) h1 (by rw [hkid]; exact hb2), hkid]
            have HL2 : Hid (∀ wx, QAt w wx S a v mo lk → Calls Try.prog 47 #[.pointer (some ⟨a, 0, none⟩), .int .i64 (2 * (k : Int) + 1 + 1), .int .i64 (k : Int)] wx fun e w' => e = .returned (.bool true) ∧ QAt w w' S a v mo lk) := fun wx hq => by
              have := lessAt hq (2 * k + 2) k (by omega) (by omega) (2 * (k : Int) + 1 + 1) (k : Int) (by omega) rfl
              rw [hb2] at this
              exact this
            have HS : Hid (∀ wx, QAt w wx S a v mo lk → Calls Try.prog 50 #[.pointer (some ⟨a, 0, none⟩), .int .i64 (k : Int), .int .i64 (2 * (k : Int) + 1 + 1)] wx fun e w' => e = .returned (.tuple #[]) ∧ QAt w w' S a v mo (swp lk k (2 * k + 2))) := fun wx hq =>
              swapAt hq k (2 * k + 2) (by omega) (by omega) (k : Int) (2 * (k : Int) + 1 + 1) rfl (by omega)
            clear HE HQ hkid
            go_wp2_with (first
              | (go_at_call 47; refine HL1.out.mono ?_; rintro e w' ⟨rfl, hq'⟩; have HQ' := hid hq'; clear hq' HL1)
              | (go_at_call 47; refine (HL2.out _ HQ'.out).mono ?_; rintro e w2 ⟨rfl, hq2⟩; have HQ2 := hid hq2; clear hq2)
              | (go_at_call 50; refine (HS.out _ HQ2.out).mono ?_; rintro e w3 ⟨rfl, hq3⟩; have HQ3 := hid hq3; clear hq3))
            go_roundg (n - (2 * k + 2))
            case measure => omega
            case rel => exact ⟨2 * k + 2, swp lk k (2 * k + 2), by go_num, by omega, Nat.le_refl _, by rw [swp_len]; exact hlen, HQ3, HF⟩
        | false =>
          have hkid : kid lk k n = 2 * k + 1 := by unfold kid; rw [if_neg (by simp [hb1])]
          have HL1 := hid (lessAt HQ.out (2 * k + 2) (2 * k + 1) (by omega) (by omega) (2 * (k : Int) + 1 + 1) (2 * (k : Int) + 1) (by omega) (by omega))
          rw [hb1] at HL1
          cases hb2 : bef (g lk (2 * k + 1)) (g lk k) with
          | false =>
            have HF : Hid (downL l i n = (lk, k)) := by show _ = _; rw [← HE.out, downL_stop h1 (by rw [hkid]; exact hb2)]
            have HL2 : Hid (∀ wx, QAt w wx S a v mo lk → Calls Try.prog 47 #[.pointer (some ⟨a, 0, none⟩), .int .i64 (2 * (k : Int) + 1), .int .i64 (k : Int)] wx fun e w' => e = .returned (.bool false) ∧ QAt w w' S a v mo lk) := fun wx hq => by
              have := lessAt hq (2 * k + 1) k (by omega) (by omega) (2 * (k : Int) + 1) (k : Int) (by omega) rfl
              rw [hb2] at this
              exact this
            clear HE HQ hkid
            have hd : Hid (decide ((i : Int) < (k : Int)) = decide (i < k)) := by show _ = _; rw [Bool.eq_iff_iff]; simp
            go_wp2_with (first
              | (go_at_call 47; refine HL1.out.mono ?_; rintro e w' ⟨rfl, hq'⟩; have HQ' := hid hq'; clear hq' HL1)
              | (go_at_call 47; refine (HL2.out _ HQ'.out).mono ?_; rintro e w2 ⟨rfl, hq2⟩; have HQ2 := hid hq2; clear hq2))
            go_ret
            rw [HF.out]
            exact ⟨rfl, HQ2.out⟩
          | true =>
            have HF : Hid (downL (swp lk k (2 * k + 1)) (2 * k + 1) n = downL l i n) := by show _ = _; rw [← HE.out, downL_go (l := lk) (i := k) h1 (by rw [hkid]; exact hb2), hkid]
            have HL2 : Hid (∀ wx, QAt w wx S a v mo lk → Calls Try.prog 47 #[.pointer (some ⟨a, 0, none⟩), .int .i64 (2 * (k : Int) + 1), .int .i64 (k : Int)] wx fun e w' => e = .returned (.bool true) ∧ QAt w w' S a v mo lk) := fun wx hq => by
              have := lessAt hq (2 * k + 1) k (by omega) (by omega) (2 * (k : Int) + 1) (k : Int) (by omega) rfl
              rw [hb2] at this
              exact this
            have HS : Hid (∀ wx, QAt w wx S a v mo lk → Calls Try.prog 50 #[.pointer (some ⟨a, 0, none⟩), .int .i64 (k : Int), .int .i64 (2 * (k : Int) + 1)] wx fun e w' => e = .returned (.tuple #[]) ∧ QAt w w' S a v mo (swp lk k (2 * k + 1))) := fun wx hq =>
              swapAt hq k (2 * k + 1) (by omega) (by omega) (k : Int) (2 * (k : Int) + 1) rfl (by omega)
            clear HE HQ hkid
            go_wp2_with (first
              | (go_at_call 47; refine HL1.out.mono ?_; rintro e w' ⟨rfl, hq'⟩; have HQ' := hid hq'; clear hq' HL1)
              | (go_at_call 47; refine (HL2.out _ HQ'.out).mono ?_; rintro e w2 ⟨rfl, hq2⟩; have HQ2 := hid hq2; clear hq2)
              | (go_at_call 50; refine (HS.out _ HQ2.out).mono ?_; rintro e w3 ⟨rfl, hq3⟩; have HQ3 := hid hq3; clear hq3))
            go_roundg (n - (2 * k + 1))
            case measure => omega
            case rel => exact ⟨2 * k + 1, swp lk k (2 * k + 1), by go_num, by omega, Nat.le_refl _, by rw [swp_len]; exact hlen, HQ3, HF⟩
      · have h2z : ¬ (2 * (k : Int) + 1 + 1 < (n : Int)) := by omega
        have hkid : kid lk k n = 2 * k + 1 := by unfold kid; rw [if_neg (fun h => h2 h.1)]
        cases hb2 : bef (g lk (2 * k + 1)) (g lk k) with
        | false =>
          have HF : Hid (downL l i n = (lk, k)) := by show _ = _; rw [← HE.out, downL_stop h1 (by rw [hkid]; exact hb2)]
          have HL2 := hid (lessAt HQ.out (2 * k + 1) k (by omega) (by omega) (2 * (k : Int) + 1) (k : Int) (by omega) rfl)
          rw [hb2] at HL2
          clear HE HQ hkid
          have hd : Hid (decide ((i : Int) < (k : Int)) = decide (i < k)) := by show _ = _; rw [Bool.eq_iff_iff]; simp
          go_wp2_with (first
            | (go_at_call 47; refine HL2.out.mono ?_; rintro e w2 ⟨rfl, hq2⟩; have HQ2 := hid hq2; clear hq2))
          go_ret
          rw [HF.out]
          exact ⟨rfl, HQ2.out⟩
        | true =>
          have HF : Hid (downL (swp lk k (2 * k + 1)) (2 * k + 1) n = downL l i n) := by show _ = _; rw [← HE.out, downL_go (l := lk) (i := k) h1 (by rw [hkid]; exact hb2), hkid]
          have HL2 := hid (lessAt HQ.out (2 * k + 1) k (by omega) (by omega) (2 * (k : Int) + 1) (k : Int) (by omega) rfl)
          rw [hb2] at HL2
          have HS : Hid (∀ wx, QAt w wx S a v mo lk → Calls Try.prog 50 #[.pointer (some ⟨a, 0, none⟩), .int .i64 (k : Int), .int .i64 (2 * (k : Int) + 1)] wx fun e w' => e = .returned (.tuple #[]) ∧ QAt w w' S a v mo (swp lk k (2 * k + 1))) := fun wx hq =>
            swapAt hq k (2 * k + 1) (by omega) (by omega) (k : Int) (2 * (k : Int) + 1) rfl (by omega)
          clear HE HQ hkid
          go_wp2_with (first
            | (go_at_call 47; refine HL2.out.mono ?_; rintro e w2 ⟨rfl, hq2⟩; have HQ2 := hid hq2; clear hq2)
            | (go_at_call 50; refine (HS.out _ HQ2.out).mono ?_; rintro e w3 ⟨rfl, hq3⟩; have HQ3 := hid hq3; clear hq3))
          go_roundg (n - (2 * k + 1))
          case measure => omega
          case rel => exact ⟨2 * k + 1, swp lk k (2 * k + 1), by go_num, by omega, Nat.le_refl _, by rw [swp_len]; exact hlen, HQ3, HF⟩

end Go.Proofs.Ytohbnkghenlnoaa
