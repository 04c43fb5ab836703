/- isRight, Read, readNotes. -/
import Derived.Test.YtkdbclnnmpnfgaaHD21
namespace Go.Proofs.Ytkdbclnnmpnfgaa
open Go.RowKit Go.Maps
set_option maxRecDepth 100000
set_option linter.unusedSimpArgs false
set_option linter.unusedVariables false

set_option maxHeartbeats 6400000 in
theorem isRight_any (x : Nt) (w : World) (h1 : I64 x.ep) (h2 : I64 x.seq) (h3 : I64 x.n) (h4 : I64 x.off) :
    Calls Try.prog 69 #[.agg #[.int .i64 x.ep, .int .i64 x.seq, .int .i64 x.n, .int .i64 x.off]] w fun e w' => e = .returned (.bool (rightNt x)) ∧ Below w.heap.size w w' := by
  obtain ⟨xe, xs, xn, xo⟩ := x
  simp only at *
  have HC := hid (fun w => isCount_any xn w h3)
  have HE := hid (fun w => isNumber_any xe w h1)
  have HR : Hid (rightNt ⟨xe, xs, xn, xo⟩ = ((decide (1 ≤ xn) && decide (xn ≤ 64)) && inB xe && decide (0 ≤ xs) && decide (xs ≤ 1000000 - (xn - 1)) && decide (0 ≤ xo) && decide (xo ≤ 1000000000 - (xn - 1)))) := rfl
  have hB := hid ((Below.refl w.heap.size w).alloc (Nat.le_refl _) (.cells #[.int .i64 xe, .int .i64 xs, .int .i64 xn, .int .i64 xo] 64))
  unfold I64 at *
  cases b1 : (decide (1 ≤ xn) && decide (xn ≤ 64)) with
  | false =>
    have HF : Hid (rightNt ⟨xe, xs, xn, xo⟩ = false) := by show _ = _; rw [HR.out, b1]; rfl
    rw [b1] at HC
    clear b1
    go_enter Try.func69, Try.ntmps69
    go_wp2_with fail
    refine (HC.out _).mono ?_; rintro e w1 ⟨rfl, rfl⟩
    go_wp2_with fail
    go_ret
    exact ⟨by rw [HF.out]; rfl, hB.out⟩
  | true =>
    have q1 : 1 ≤ xn ∧ xn ≤ 64 := by simpa using b1
    have HR2 : Hid (rightNt ⟨xe, xs, xn, xo⟩ = (inB xe && decide (0 ≤ xs) && decide (xs ≤ 1000000 - (xn - 1)) && decide (0 ≤ xo) && decide (xo ≤ 1000000000 - (xn - 1)))) := by show _ = _; rw [HR.out, b1]; rfl
    rw [b1] at HC
    clear b1 HR
    cases b2 : inB xe with
    | false =>
      have HF : Hid (rightNt ⟨xe, xs, xn, xo⟩ = false) := by show _ = _; rw [HR2.out, b2]; rfl
      rw [b2] at HE
      clear b2
      go_enter Try.func69, Try.ntmps69
      go_wp2_with fail
      refine (HC.out _).mono ?_; rintro e w1 ⟨rfl, rfl⟩
      go_wp2_with fail
      refine (HE.out _).mono ?_; rintro e w1 ⟨rfl, rfl⟩
      go_wp2_with fail
      go_ret
      exact ⟨by rw [HF.out]; rfl, hB.out⟩
    | true =>
      have HR3 : Hid (rightNt ⟨xe, xs, xn, xo⟩ = (decide (0 ≤ xs) && decide (xs ≤ 1000000 - (xn - 1)) && decide (0 ≤ xo) && decide (xo ≤ 1000000000 - (xn - 1)))) := by show _ = _; rw [HR2.out, b2]; rfl
      rw [b2] at HE
      clear b2 HR2
      by_cases c1 : 0 ≤ xs
      · by_cases c2 : xs ≤ 1000000 - (xn - 1)
        · by_cases c3 : 0 ≤ xo
          · by_cases c4 : xo ≤ 1000000000 - (xn - 1)
            · have HF : Hid (rightNt ⟨xe, xs, xn, xo⟩ = true) := by show _ = _; rw [HR3.out]; simp [c1, c2, c3, c4]
              go_enter Try.func69, Try.ntmps69
              go_wp2_with fail
              refine (HC.out _).mono ?_; rintro e w1 ⟨rfl, rfl⟩
              go_wp2_with fail
              refine (HE.out _).mono ?_; rintro e w1 ⟨rfl, rfl⟩
              go_wp2_with fail
              go_ret
              exact ⟨by rw [HF.out]; rfl, hB.out⟩
            · have HF : Hid (rightNt ⟨xe, xs, xn, xo⟩ = false) := by show _ = _; rw [HR3.out]; simp [c4]
              go_enter Try.func69, Try.ntmps69
              go_wp2_with fail
              refine (HC.out _).mono ?_; rintro e w1 ⟨rfl, rfl⟩
              go_wp2_with fail
              refine (HE.out _).mono ?_; rintro e w1 ⟨rfl, rfl⟩
              go_wp2_with fail
              go_ret
              exact ⟨by rw [HF.out]; exact ret_bool (decide_eq_false (by omega)), hB.out⟩
          · have HF : Hid (rightNt ⟨xe, xs, xn, xo⟩ = false) := by show _ = _; rw [HR3.out]; simp [c3]
            go_enter Try.func69, Try.ntmps69
            go_wp2_with fail
            refine (HC.out _).mono ?_; rintro e w1 ⟨rfl, rfl⟩
            go_wp2_with fail
            refine (HE.out _).mono ?_; rintro e w1 ⟨rfl, rfl⟩
            go_wp2_with fail
            go_ret
            exact ⟨by rw [HF.out]; rfl, hB.out⟩
        · have HF : Hid (rightNt ⟨xe, xs, xn, xo⟩ = false) := by show _ = _; rw [HR3.out]; simp [c2]
          go_enter Try.func69, Try.ntmps69
          go_wp2_with fail
          refine (HC.out _).mono ?_; rintro e w1 ⟨rfl, rfl⟩
          go_wp2_with fail
          refine (HE.out _).mono ?_; rintro e w1 ⟨rfl, rfl⟩
          go_wp2_with fail
          go_ret
          exact ⟨by rw [HF.out]; rfl, hB.out⟩
      · have HF : Hid (rightNt ⟨xe, xs, xn, xo⟩ = false) := by show _ = _; rw [HR3.out]; simp [c1]
        go_enter Try.func69, Try.ntmps69
        go_wp2_with fail
        refine (HC.out _).mono ?_; rintro e w1 ⟨rfl, rfl⟩
        go_wp2_with fail
        refine (HE.out _).mono ?_; rintro e w1 ⟨rfl, rfl⟩
        go_wp2_with fail
        go_ret
        exact ⟨by rw [HF.out]; rfl, hB.out⟩

set_option maxHeartbeats 400000 in
theorem pread_any (l : List UInt8) (w : World) (hl : l.length ≤ maxLen) : Calls Try.prog 43 #[.string (strOf l)] w fun e w' => e = .returned (.pointer (some ⟨w.heap.size, 0, none⟩)) ∧ Pd w' w.heap.size ⟨l, false⟩ ∧ Below w.heap.size w w' := by
  have HP : Hid (Pd (w.alloc (.cells #[.string (strOf l), .bool false] 105)) w.heap.size ⟨l, false⟩) := ⟨heap_alloc_new _ _, hl⟩
  go_enter Try.func43, Try.ntmps43
  go_wp2_with fail
  go_ret
  exact ⟨rfl, HP.out, (Below.refl _ _).alloc (Nat.le_refl _) _⟩

end Go.Proofs.Ytkdbclnnmpnfgaa

