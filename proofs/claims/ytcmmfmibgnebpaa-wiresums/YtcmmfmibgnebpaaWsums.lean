/- WireSums and WireInts: the walks. -/
import Derived.Test.YtcmmfmibgnebpaaShown
namespace Go.Proofs.Ytcmmfmibgnebpaa
open Go.RowKit Go.Maps
set_option linter.unusedSimpArgs false
set_option linter.unusedVariables false
set_option maxRecDepth 100000

set_option maxHeartbeats 800000 in
theorem sums_walk (s : ByteArray) (w : World) (hs : s.size ≤ maxLen) : Calls Try.prog 4 #[.string s] w fun e w' => e = .returned (.bool true) ∧ Below w.heap.size w w' := by
  have HS := hid (shown_any w)
  have H14 := hid (fun W => crc_any s W hs)
  have H15 := hid (fun W => rcrc_any s W hs)
  generalize crcL s.data.toList = C at *
  go_enter Try.func4, Try.ntmps4
  go_wp2_with fail
  refine HS.out.mono ?_
  rintro e w1 ⟨rfl, hb1⟩
  go_wp2_with fail
  refine (H14.out _).mono ?_
  rintro e w2 ⟨rfl, rfl⟩
  go_wp2_with fail
  refine (H15.out _).mono ?_
  rintro e w2 ⟨rfl, rfl⟩
  go_wp2
  go_ret
  exact ⟨rfl, hb1⟩

set_option maxHeartbeats 800000 in
theorem ints_walk (n : Int) (s : ByteArray) (w : World) (hn : I64 n) (hs : s.size ≤ maxLen) : Calls Try.prog 3 #[.int .i64 n, .string s] w fun e w' => e = .returned (.bool true) ∧ Below w.heap.size w w' := by
  have HS := hid (shown_any w)
  have H10 := hid (fun W => readInt_any s W hs)
  have H11 := hid (fun W => rreadInt_any s W hs)
  have H12 := hid (fun W => int_any n W hn)
  have H13 := hid (fun W => rint_any n W hn)
  generalize readL s.data.toList = R at *
  obtain ⟨x, k, e⟩ := R
  generalize strOf (intL n) = S at *
  simp only at *
  go_enter Try.func3, Try.ntmps3
  go_wp2_with fail
  refine HS.out.mono ?_
  rintro e w1 ⟨rfl, hb1⟩
  go_wp2_with fail
  refine (H10.out _).mono ?_
  rintro e w2 ⟨rfl, rfl⟩
  go_wp2_with fail
  refine (H11.out _).mono ?_
  rintro e w2 ⟨rfl, rfl⟩
  go_wp2_with fail
  refine (H12.out _).mono ?_
  rintro e w2 ⟨rfl, hb2⟩
  go_wp2_with fail
  refine (H13.out _).mono ?_
  rintro e w3 ⟨rfl, hb3⟩
  have HF := hid (hb1.trans ((hb2.trans (hb3.mono hb2.size)).mono hb1.size))
  clear hb1 hb2 hb3
  go_wp2
  go_ret
  exact ⟨rfl, HF.out⟩
end Go.Proofs.Ytcmmfmibgnebpaa
