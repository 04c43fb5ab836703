/- Two rows of the same entries. -/
import Derived.Test.YtclldpecbocclaaGreatKO1
namespace Go.Proofs.YtclldpecbocclaaGreat
open Go.RowKit Go.Maps
set_option maxRecDepth 100000
set_option linter.unusedSimpArgs false
set_option linter.unusedVariables false

set_option maxHeartbeats 3200000 in
theorem sameE_yes {w : World} {v1 v2 : Value} {l : List Et} (h1 : EL w v1 l) (h2 : EL w v2 l) :
    Calls Tryz.prog 18 #[v1, v2] w fun e w' => e = .returned (.bool true) ∧ Below w.heap.size w w' := by
  obtain ⟨oa, ca, rfl, hca, hcam, hna, hoa⟩ := h1.shape
  obtain ⟨ob, cb, rfl, hcb, hcbm, hnb, hob⟩ := h2.shape
  have hlm : l.length ≤ 9223372036854775807 := by unfold maxLen at hcam; omega
  have H1 := hid h1
  have H2 := hid h2
  clear h1 h2 hna hnb
  go_enter Tryz.func18, Tryz.ntmps18
  go_wp2_with fail
  go_loopg [5] l.length (fun kx s5 wr => ∃ k : Nat, k ≤ l.length ∧ l.length - k ≤ kx ∧ s5 = .int .i64 (k : Int) ∧ Hid (Below w.heap.size w wr))
  case atStart => exact ⟨0, by omega, by omega, rfl, Below.refl _ _⟩
  case round =>
    obtain ⟨k, hk, hkx, rfl, HB⟩ := hrel
    by_cases hlt : k < l.length
    · have hlt' : (k : Int) < (l.length : Int) := by omega
      obtain ⟨ga, rfl⟩ := hoa (by omega)
      obtain ⟨gb, rfl⟩ := hob (by omega)
      have hx : l[k]? = some l[k] := List.getElem?_eq_getElem hlt
      obtain ⟨a0, a1, a2⟩ := (H1.out.under HB.out).at_ k _ hx
      obtain ⟨b0, b1, b2⟩ := (H2.out.under HB.out).at_ k _ hx
      clear hx
      generalize l[k] = x at *
      have hq3 := fun W => neq38 x W
      obtain ⟨xt, xi, xd⟩ := x
      simp only at *
      go_wp2_with fail
      try go_quiet (fail)
      try go_wp2_with fail
      go_roundg (l.length - (k + 1))
      case measure => omega
      case rel => exact ⟨k + 1, by omega, Nat.le_refl _, by go_num, by first | exact HB | exact hid (below_drewN HB.out _) | exact hid HB.out.drew⟩
    · have hlt' : ¬ (k : Int) < (l.length : Int) := by omega
      go_wp2_with fail
      go_ret
      exact ⟨rfl, HB.out⟩
end Go.Proofs.YtclldpecbocclaaGreat

