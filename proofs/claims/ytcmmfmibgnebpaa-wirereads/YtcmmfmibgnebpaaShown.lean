/- The chapter's examples. -/
import Derived.Test.YtcmmfmibgnebpaaRbatch
namespace Go.Proofs.Ytcmmfmibgnebpaa
open Go.RowKit Go.Maps
set_option linter.unusedSimpArgs false
set_option linter.unusedVariables false
set_option maxRecDepth 100000

def b0 : Bat := ⟨5, 0, 0, 0, 0, [⟨[107], [], 3⟩]⟩
def s18 : List UInt8 := (batchL b0).1
def more : List UInt8 := [109, 111, 114, 101]
theorem b0_right : rightL b0 = 0 := by decide +kernel
theorem s18_len : s18.length = 18 := by decide +kernel
theorem s18_drop : s18.drop 8 = [10, 0, 0, 0, 0, 2, 6, 2, 107, 0] := by decide +kernel
theorem b0_batch : batchL b0 = (s18, 0) := by
  have h : (batchL b0).2 = 0 := by decide +kernel
  rw [← h]
  rfl
theorem s18_read : readBatchL (s18 ++ more) = (b0, 18, 0) := by
  have h := readBatchL_batchL b0 more ⟨by decide, by decide⟩ b0_right
  rw [show (batchL b0).1 = s18 from rfl, s18_len] at h
  exact h
theorem x_crc : crcL [49, 50, 51, 52, 53, 54, 55, 56, 57] = 3808858755 := by decide +kernel
theorem x_int : intL (-65) = [129, 1] := by decide +kernel
theorem x_read : readL [128, 1, 9] = (64, 2, 0) := by decide +kernel
theorem x_bad : readL [128, 0] = (0, 0, 4) := by decide +kernel

theorem c_read (W : World) : Calls Try.prog 10 #[.string ⟨#[128, 1, 9]⟩] W fun e w' => e = .returned (.tuple #[.int .i64 64, .int .i64 2, .int .i64 0]) ∧ W = w' := by
  have h := readInt_any ⟨#[128, 1, 9]⟩ W (by unfold maxLen; decide)
  rw [show (⟨#[128, 1, 9]⟩ : ByteArray).data.toList = [128, 1, 9] from rfl, x_read] at h
  exact h
theorem c_bad (W : World) : Calls Try.prog 10 #[.string ⟨#[128, 0]⟩] W fun e w' => e = .returned (.tuple #[.int .i64 0, .int .i64 0, .int .i64 4]) ∧ W = w' := by
  have h := readInt_any ⟨#[128, 0]⟩ W (by unfold maxLen; decide)
  rw [show (⟨#[128, 0]⟩ : ByteArray).data.toList = [128, 0] from rfl, x_bad] at h
  exact h
theorem c_crc (W : World) : Calls Try.prog 14 #[.string ⟨#[49, 50, 51, 52, 53, 54, 55, 56, 57]⟩] W fun e w' => e = .returned (.int .i64 3808858755) ∧ W = w' := by
  have h := crc_any ⟨#[49, 50, 51, 52, 53, 54, 55, 56, 57]⟩ W (by unfold maxLen; decide)
  rw [show (⟨#[49, 50, 51, 52, 53, 54, 55, 56, 57]⟩ : ByteArray).data.toList = [49, 50, 51, 52, 53, 54, 55, 56, 57] from rfl, x_crc] at h
  exact h
theorem c_int (W : World) : Calls Try.prog 12 #[.int .i64 (-65)] W fun e w' => e = .returned (.string ⟨#[129, 1]⟩) ∧ Below W.heap.size W w' := by
  have h := int_any (-65) W ⟨by decide, by decide⟩
  rw [x_int] at h
  exact h
theorem c_batch (W : World) : Calls Try.prog 16 #[.agg #[.int .i64 5, .int .i64 0, .int .i64 0, .int .i64 0, .int .i64 0, .slice (some ⟨W.heap.size, 0, none⟩) 1 1]] (W.alloc (.cells #[.string ⟨#[107]⟩, .string ⟨#[]⟩, .int .i64 3] 51))
    fun e w' => e = .returned (.tuple #[.string (strOf s18), .int .i64 0]) ∧ Below W.heap.size W w' := by
  have hr : Recs (W.alloc (.cells #[.string ⟨#[107]⟩, .string ⟨#[]⟩, .int .i64 3] 51)) (.slice (some ⟨W.heap.size, 0, none⟩) b0.recs.length 1) b0.recs := by
    refine ⟨⟨_, _, rfl, .inr ⟨W.heap.size, 0, rfl, by simp, fun i hi => ?_⟩⟩, ?_, by unfold maxLen; decide⟩
    · have h0 : i = 0 := by simp [b0] at hi; omega
      subst h0
      exact ⟨cell_new rfl rfl, cell_new rfl rfl, cell_new rfl rfl⟩
    · intro r hr
      simp [b0] at hr
      subst hr
      exact ⟨⟨by decide, by decide⟩, by unfold maxLen; decide, by unfold maxLen; decide⟩
  have h := batch_any b0 (some ⟨W.heap.size, 0, none⟩) 1 hr ⟨⟨by decide, by decide⟩, ⟨by decide, by decide⟩, ⟨by decide, by decide⟩, ⟨by decide, by decide⟩, ⟨by decide, by decide⟩⟩
  rw [b0_batch] at h
  exact h.mono fun e w' ⟨h1, h2⟩ => ⟨h1, ((Below.refl _ _).alloc (Nat.le_refl _) _).trans (h2.mono (by simp))⟩
theorem c_readBatch (W : World) : Calls Try.prog 21 #[.string (strOf (s18 ++ more))] W fun e w' => ∃ a cap, e = .returned (.tuple #[.agg #[.int .i64 5, .int .i64 0, .int .i64 0, .int .i64 0, .int .i64 0, .slice a 1 cap], .int .i64 18, .int .i64 0]) ∧ Below W.heap.size W w' := by
  have h := readBatch_any (w := W) (s18 ++ more) (by rw [List.length_append, s18_len]; unfold maxLen; decide)
  rw [s18_read] at h
  refine h.mono ?_
  rintro e w' ⟨rv, rfl, hrec, hb⟩
  obtain ⟨a, cap, e, _⟩ := hrec.shape
  subst e
  exact ⟨a, cap, rfl, hb⟩

set_option maxHeartbeats 1600000 in
theorem shown_any (w : World) : Calls Try.prog 9 #[] w fun e w' => e = .returned (.bool true) ∧ Below w.heap.size w w' := by
  have z18 : (strOf s18).size = 18 := by rw [strOf_size, s18_len]
  have z19 : strOf s18 ++ (⟨#[109, 111, 114, 101]⟩ : ByteArray) = strOf (s18 ++ more) := strOf_append s18 more
  have z20 : (strOf s18).extract 8 18 = ⟨#[10, 0, 0, 0, 0, 2, 6, 2, 107, 0]⟩ := by
    have := extract_drop s18 8
    rw [s18_len, s18_drop] at this
    exact this
  have HB : Hid (∀ W : World, Below w.heap.size w W → Calls Try.prog 16 #[.agg #[.int .i64 5, .int .i64 0, .int .i64 0, .int .i64 0, .int .i64 0, .slice (some ⟨W.heap.size, 0, none⟩) 1 1]] (W.alloc (.cells #[.string ⟨#[107]⟩, .string ⟨#[]⟩, .int .i64 3] 51)) fun e w' => e = .returned (.tuple #[.string (strOf s18), .int .i64 0]) ∧ Below w.heap.size w w') := fun W h => (c_batch W).mono fun e w' ⟨h1, h2⟩ => ⟨h1, h.trans (h2.mono h.size)⟩
  have HA := hid c_read
  have HA2 := hid c_bad
  have HRB := hid c_readBatch
  have HC := hid c_crc
  have HI := hid c_int
  go_enter Try.func9, Try.ntmps9
  go_wp2_with fail
  refine (HA.out _).mono ?_
  rintro e w1 ⟨rfl, rfl⟩
  go_wp2_with fail
  refine (HA2.out _).mono ?_
  rintro e w1 ⟨rfl, rfl⟩
  go_wp2_with fail
  refine (HB.out _ (Below.refl _ _)).mono ?_
  rintro e w2 ⟨rfl, hb2⟩
  go_wp2_with fail
  refine (HRB.out _).mono ?_
  rintro e w3 ⟨a, cap, rfl, hb3⟩
  have HX := hid ((Boxed.laid w3 (.cells #[.int .i64 5, .int .i64 0, .int .i64 0, .int .i64 0, .int .i64 0, .slice a 1 cap] 32)))
  have hb4 := hid (hb2.trans (hb3.mono hb2.size))
  have hs4 := hb4.out.size
  clear hb2 hb3
  go_wp2_with fail
  refine (HC.out _).mono ?_
  rintro e w4 ⟨rfl, rfl⟩
  go_wp2_with fail
  refine (HI.out _).mono ?_
  rintro e w5 ⟨rfl, hb5⟩
  have X5 := hid (HX.out.next hb5)
  obtain ⟨c0, c1, c2, c3, c4, c5⟩ := six X5.out
  have HF : Hid (Below w.heap.size w w5) := hb4.out.trans (X5.out.below.mono hs4)
  clear hb5
  go_wp2
  go_ret
  exact ⟨rfl, HF.out⟩
end Go.Proofs.Ytcmmfmibgnebpaa
