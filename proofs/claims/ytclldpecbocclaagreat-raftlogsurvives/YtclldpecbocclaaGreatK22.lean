/- rewrite, Snap. -/
import Derived.Test.YtclldpecbocclaaGreatK18
namespace Go.Proofs.YtclldpecbocclaaGreat
open Go.RowKit Go.Maps
set_option maxRecDepth 100000
set_option linter.unusedSimpArgs false
set_option linter.unusedVariables false

set_option maxHeartbeats 3200000 in
theorem rewrite_any {w : World} {U S q a v s size F l0} (hM : LogM w U q a v s) (hb : LB s) (hr : ∀ y ∈ s.list, I64 y.t ∧ I64 y.i ∧ y.d.length ≤ 2048) (hD : DiskA w S a size F) (hUS : ∀ k, S k → ¬ U k) (hF : F = fsOf l0 (sB s) (tB s)) (hle : (logB s.list).length ≤ (l0.getD []).length) (hsz : (logB s.list).length ≤ 16777216) :
    Calls Tryz.prog 34 #[.pointer (some ⟨q, 0, none⟩)] w fun e w' => e = .returned (.int .i64 0) ∧ AfterA S w w' a size (fsOf (l0.map fun _ => logB s.list) (sB s) (tB s)) := by
  subst hF
  obtain ⟨oa, cap, rfl, hcap, hcm, hnn, hoa⟩ := hM.ents.shape
  have c7 := hM.c.c7
  have c5 := hM.c.c5
  have HK : Hid (∀ W, Below w.heap.size w W → W.cell? ⟨q, 5, none⟩ = some (.slice oa s.list.length cap)) := fun W hW => (hM.under hW).c.c5
  have H24 : Hid (∀ W, Below w.heap.size w W → Calls Tryz.prog 28 #[.pointer (some ⟨q, 0, none⟩)] W fun e w' => e = .returned (.pointer (some ⟨a, 0, none⟩)) ∧ W = w') := fun W hW => ldisk_any (hM.under hW)
  have H48 : Hid (∀ W, Below w.heap.size w W → Calls Tryz.prog 55 #[.pointer (some ⟨a, 0, none⟩), .string nL] W fun e w' => e = .returned (.tuple #[.string (strOf (l0.getD [])), .int .i64 ((if l0.isSome = true then 0 else 8 : Nat) : Int)]) ∧ Below w.heap.size w w') := fun W hW => by
    have h1 := readA (hD.under hW) nL (by decide)
    have e1 : abytes (fsOf l0 (sB s) (tB s)) nL.data.toList = l0.getD [] := bytes_L _ _ _
    have e2 : synE (fsOf l0 (sB s) (tB s)) nL = (if l0.isSome = true then 0 else 8) := by unfold synE; rw [look_L]; cases l0 <;> rfl
    rw [e1, e2] at h1
    exact h1.mono fun e w' ⟨g1, g2⟩ => ⟨g1, hW.trans (g2.mono hW.size)⟩
  have H49 : Hid (∀ W, Below w.heap.size w W → Calls Tryz.prog 44 #[.slice oa s.list.length cap] W fun e w' => e = .returned (.string (strOf (logB s.list))) ∧ Below w.heap.size w w') := fun W hW => (logText_any (hM.under hW).ents.at hb.len hr).mono fun e w' ⟨e1, e2⟩ => ⟨e1, hW.trans (e2.mono hW.size)⟩
  have H25 : Hid (∀ W, Below w.heap.size w W → Calls Tryz.prog 29 #[.pointer (some ⟨a, 0, none⟩), .string nL, .string (strOf (logB s.list))] W fun e w' => e = .returned (.int .i64 0) ∧ Hid (AfterA S w w' a size (fsOf (some (logB s.list)) (sB s) (tB s))) ∧ w'.cell? ⟨q, 5, none⟩ = some (.slice oa s.list.length cap)) := fun W hW => by
    obtain ⟨R1, R2⟩ := rep_L size l0 (sB s) (tB s) (logB s.list) hle
    have h1 := replaceA (hD.under hW) nL (strOf (logB s.list)) (by decide) (by rw [strOf_size]; unfold maxLen; omega)
    rw [R1, R2] at h1
    refine h1.mono fun e w' ⟨e1, e2⟩ => ?_
    have hA := AfterA.begun hW e2
    obtain ⟨S', g1, g2, g3, g4⟩ := id hA
    exact ⟨e1, hA, (hM.beside g4 (fun k hU hS => hUS k hS hU)).c.c5⟩
  have HSame : Hid (∀ W, Below w.heap.size w W → AfterA S w W a size (fsOf l0 (sB s) (tB s))) := fun W hW => AfterA.same hD hW
  have hnL : (⟨#[114]⟩ ++ ⟨#[46, 108, 111, 103]⟩ : ByteArray) = nL := by decide
  clear hM hb hr hD hUS hle hoa
  generalize hTX : logB s.list = TX at *
  clear hTX
  generalize s.list.length = N at *
  cases l0 with
  | none =>
    simp only [Option.isSome_none, Bool.false_eq_true, if_false] at H48
    go_enter Tryz.func34, Tryz.ntmps34
    go_wp2_with (first | (go_at_call 28; refine (H24.out _ (Below.refl _ _)).mono ?_; rintro e w2 ⟨rfl, rfl⟩) | (go_at_call 55; refine (H48.out _ (Below.refl _ _)).mono ?_; rintro e w3 ⟨rfl, hb3⟩))
    go_ret
    exact ⟨rfl, HSame.out _ hb3⟩
  | some c0 =>
    simp only [Option.isSome_some, if_true] at H48
    go_enter Tryz.func34, Tryz.ntmps34
    go_wp2_with (first | (go_at_call 28; refine (H24.out _ (Below.refl _ _)).mono ?_; rintro e w2 ⟨rfl, rfl⟩) | (go_at_call 55; refine (H48.out _ (Below.refl _ _)).mono ?_; rintro e w3 ⟨rfl, hb3⟩; have p3 := HK.out _ hb3))
    go_region_held3 (fun w' => w'.cell? ⟨q, 5, none⟩ = some (.slice oa N cap)) (first | exact p5 | exact p4 | exact p3 | go_keep)
      (first
      | (go_at_call 28; refine (H24.out _ (by first | exact hb3 | exact hb3.drew | exact hb4 | exact hb4.drew)).mono ?_; rintro e w2 ⟨rfl, rfl⟩)
      | (go_at_call 44; refine (H49.out _ (by first | exact hb3 | exact hb3.drew)).mono ?_; rintro e w4 ⟨rfl, hb4⟩; have p4 := HK.out _ hb4)
      | (go_at_call 29; refine (H25.out _ (by first | exact hb4 | exact hb4.drew)).mono ?_; rintro e w5 ⟨rfl, HA5, p5⟩)
      | fail)
    all_goals
      go_wp2_with fail
      go_ret
      exact ⟨rfl, HA5.out⟩
end Go.Proofs.YtclldpecbocclaaGreat

