/- The chapter's examples, without memory. -/
import Derived.Test.YtcffomhcmilcpaaGreatK0
namespace Go.Proofs.YtcffomhcmilcpaaGreat
set_option maxRecDepth 100000
set_option linter.unusedSimpArgs false
set_option linter.unusedVariables false
theorem eq_of_beq_self {α : Type} {a b : α} (h : a = b) : a = b := h
def rcR (a b c d : Int) : Rc := ⟨a, b, c, d, 0, ⟨#[116]⟩, ⟨#[]⟩, []⟩
def shI : Nat → Im
  | 0 => Im.new
  | k + 1 => (applyI (applyI (shI k) (rcR 1 ((k : Int) + 1) 1 0)).1 (rcR 3 ((k : Int) + 1) 1 0)).1
theorem sh_reg (k : Nat) (h : k < 3) : (applyI (shI k) (rcR 1 ((k : Int) + 1) 1 0)).2 = ((k : Int) + 1, 0) := by
  have : k = 0 ∨ k = 1 ∨ k = 2 := by omega
  rcases this with rfl | rfl | rfl
  · exact eq_of_beq_self (by kernel_rfl)
  · exact eq_of_beq_self (by kernel_rfl)
  · exact eq_of_beq_self (by kernel_rfl)
theorem sh_unf (k : Nat) (h : k < 3) : (applyI (applyI (shI k) (rcR 1 ((k : Int) + 1) 1 0)).1 (rcR 3 ((k : Int) + 1) 1 0)).2 = ((k : Int) + 1, 0) := by
  have : k = 0 ∨ k = 1 ∨ k = 2 := by omega
  rcases this with rfl | rfl | rfl
  · exact eq_of_beq_self (by kernel_rfl)
  · exact eq_of_beq_self (by kernel_rfl)
  · exact eq_of_beq_self (by kernel_rfl)
def sh4 : Im × Int × Int := applyI (shI 3) (rcR 4 2 2 1)
def sh5 : Im × Int × Int := applyI sh4.1 (rcR 2 1 1 0)
def sh6 : Im × Int × Int := applyI sh5.1 (rcR 1 1 1 0)
def sh7 : Im × Int × Int := applyI sh6.1 (rcR 4 1 1 1)
def sh8 : Im × Int × Int := applyI sh7.1 (rcR 8 0 0 0)
def sh9 : Im × Int × Int := applyI sh8.1 (rcR 8 1 0 0)
theorem sh4_two : sh4.2 = (1, 0) := by kernel_rfl
theorem sh4_part : sh4.1.parts = [newP 1 [1, 2] 1, newP 2 [2, 3] 1] := by kernel_rfl
theorem sh5_two : sh5.2 = (1, 0) := by kernel_rfl
theorem sh5_part : sh5.1.parts = [⟨1, 2, 2, 2, [2], [1, 2], [], [], 1⟩, newP 2 [2, 3] 1] := by kernel_rfl
theorem sh6_two : sh6.2 = (0, 13) := by kernel_rfl
theorem sh7_two : sh7.2 = (0, 9) := by kernel_rfl
theorem sh8_two : sh8.2 = (1, 0) := by kernel_rfl
theorem sh9_two : sh9.2 = (1, 0) := by kernel_rfl
theorem sh6_app : sh6.1.applied = 9 := by kernel_rfl
theorem sh7_app : sh7.1.applied = 10 := by kernel_rfl
theorem sh8_app : sh8.1.applied = 11 := by kernel_rfl
theorem sh9_app : sh9.1.applied = 12 := by kernel_rfl
end Go.Proofs.YtcffomhcmilcpaaGreat

