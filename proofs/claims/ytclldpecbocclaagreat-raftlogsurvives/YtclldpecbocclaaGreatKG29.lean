/- What is read back: an empty file of entries; any. -/
import Derived.Test.YtclldpecbocclaaGreatKG26
namespace Go.Proofs.YtclldpecbocclaaGreat
open Go.RowKit Go.Maps
set_option maxRecDepth 100000
set_option linter.unusedSimpArgs false
set_option linter.unusedVariables false

set_option maxHeartbeats 1600000 in
theorem readEntries_none (n : Int) (w : World) : Calls Tryz.prog 60 #[.string (strOf []), .int .i64 n] w fun e w' => e = .returned (.tuple #[.slice none 0 0, .int .i64 0, .int .i64 0]) ∧ Below w.heap.size w w' := by
  go_enter Tryz.func60, Tryz.ntmps60
  go_wp2_with fail
  go_loopg [7, 8] 0 (fun kx s7 s8 wr => s7 = .slice none 0 0 ∧ s8 = .int .i64 0 ∧ wr = w)
  case atStart => exact ⟨rfl, rfl, rfl⟩
  case round =>
    obtain ⟨rfl, rfl, rfl⟩ := hrel
    have HS := hid (readEntry_short [] wr (by simp))
    have hz : (strOf []).size = 0 := rfl
    go_wp2_with fail
    try (have eS : ByteArray.empty = strOf [] := rfl; rw [eS])
    refine HS.out.mono ?_
    rintro e w2 ⟨rfl, hb2⟩
    have HBA := hid (hb2.alloc hb2.size (.cells #[.int .i64 0, .int .i64 0, .string ⟨#[]⟩] 37))
    clear hb2
    go_wp2_with fail
    refine bodyPost_ret (v := .tuple #[.slice none 0 0, .int .i64 0, .int .i64 0]) (by simp [results, Tryz.results60, go_sem]) rfl ⟨rfl, HBA.out⟩
set_option maxHeartbeats 3200000 in
theorem loadLog_bare {w : World} {U S q a v s size F} (hM : LogM w U q a v s) (hD : DiskA w S a size F) (hF : alook F nL.data.toList = some ⟨nL.data.toList, [], 0⟩) :
    Calls Tryz.prog 42 #[.pointer (some ⟨q, 0, none⟩)] w fun e w' => e = .returned (.int .i64 0) ∧ ∃ w1, w' = w1.setCell ⟨q, 5, none⟩ (.slice none 0 0) ∧ Below w.heap.size w w1 := by
  have c7 := hM.c.c7
  have H24 : Hid (∀ W, Below w.heap.size w W → Calls Tryz.prog 28 #[.pointer (some ⟨q, 0, none⟩)] W fun e w' => e = .returned (.pointer (some ⟨a, 0, none⟩)) ∧ W = w') := fun W hW => ldisk_any (hM.under hW)
  have H48 : Hid (∀ W, Below w.heap.size w W → Calls Tryz.prog 55 #[.pointer (some ⟨a, 0, none⟩), .string nL] W fun e w' => e = .returned (.tuple #[.string (strOf []), .int .i64 0]) ∧ Below w.heap.size w w' ∧ w'.cell? ⟨q, 7, none⟩ = some (.string ⟨#[114]⟩)) := fun W hW => by
    have h1 := readA (hD.under hW) nL (by decide)
    have e1 : abytes F nL.data.toList = [] := by unfold abytes; rw [hF]
    have e2 : synE F nL = 0 := by unfold synE; rw [hF]; rfl
    rw [e1, e2] at h1
    exact h1.mono fun e w' ⟨g1, g2⟩ => ⟨g1, hW.trans (g2.mono hW.size), (hM.under (hW.trans (g2.mono hW.size))).c.c7⟩
  have HC3 : Hid (∀ W, Below w.heap.size w W → W.cell? ⟨q, 3, none⟩ = some (.int .i64 s.snap.i)) := fun W hW => (hM.under hW).c.c3
  have HC5 : Hid (∀ W, Below w.heap.size w W → W.cell? ⟨q, 5, none⟩ = some v) := fun W hW => (hM.under hW).c.c5
  have HFZ : Hid (∀ W, Below w.heap.size w W → W.frozen? ⟨q, 5, none⟩ = false) := fun W hW => frozen_blk (hM.under hW).box 5
  have hnm : (⟨#[114]⟩ ++ ⟨#[46, 108, 111, 103]⟩ : ByteArray) = nL := by decide
  have hz : (strOf []).size = 0 := rfl
  clear hM hD hF
  generalize s.snap.i = I at *
  have H55 := hid (fun W => readEntries_none I W)
  generalize hLL : strOf [] = LL at *
  clear hLL
  go_enter Tryz.func42, Tryz.ntmps42
  go_wp2_with fail
  go_region_held3 (fun w' => w'.cell? ⟨q, 7, none⟩ = some (.string ⟨#[114]⟩)) (first | exact p3 | exact c7 | go_keep)
    (first
    | (go_at_call 28; refine (H24.out _ (by first | exact Below.refl _ _ | exact (Below.refl _ _).drew)).mono ?_; rintro e w2 ⟨rfl, rfl⟩)
    | (go_at_call 55; refine (H48.out _ (by first | exact Below.refl _ _ | exact (Below.refl _ _).drew)).mono ?_; rintro e w3 ⟨rfl, hb3, p3⟩)
    | fail)
  all_goals
    have HB3 := hid hb3
    have k3 := HC3.out _ HB3.out
    have k3d := HC3.out _ HB3.out.drew
    clear hb3
    go_wp2_with fail
    refine (H55.out _).mono ?_
    rintro e w4 ⟨rfl, hb4⟩
    have HB4 := hid (HB3.out.trans (hb4.mono HB3.out.size))
    have k4 := HC3.out _ HB4.out
    clear hb4 k3 k3d
    have HBH := hid (behind_none w4 I)
    go_wp2_with fail
    refine HBH.out.mono ?_
    rintro e w5 ⟨rfl, hw5⟩
    obtain rfl : w4 = w5 := hw5.symm
    clear hw5
    have k5 := HC5.out _ HB4.out
    have z5 := HFZ.out _ HB4.out
    go_wp2_with fail
    go_ret
    exact ⟨rfl, w4, rfl, HB4.out⟩
end Go.Proofs.YtclldpecbocclaaGreat

