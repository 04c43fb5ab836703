/- The reader's text, record, done, five. -/
import Derived.Test.YtbgmehanhilicaaK8
import Derived.Shelf.Pu.Clone
namespace Go.Proofs.Ytbgmehanhilicaa
open Go.RowKit Go.Maps
set_option linter.unusedSimpArgs false
set_option linter.unusedVariables false
set_option maxRecDepth 100000

def cloneRen : Go.Shelf.Ren := ⟨fun | 25 => 88 | n => n, fun | 37 => 53 | 47 => 118 | n => n, fun | n => n⟩
theorem cloneLaid : Go.Proofs.LaysPu.n25 Try.prog cloneRen := {
  mixed := by kernel_rfl
  f25 := Try.func88.trans (congrArg some (by kernel_rfl))
  t0 := by kernel_rfl
  a0 := fun w => by kernel_rfl
  z0 := fun w => by kernel_rfl
  v0 := fun w => by kernel_rfl
  i0 := by kernel_rfl
  t3 := Try.underlying3
  a3 := fun w => by kernel_rfl
  z3 := fun w => by kernel_rfl
  v3 := fun w => by kernel_rfl
  i3 := by kernel_rfl
  t4 := Try.underlying4
  a4 := fun w => by kernel_rfl
  z4 := fun w => by kernel_rfl
  v4 := fun w => by kernel_rfl
  i4 := by kernel_rfl
  t5 := Try.underlying5
  a5 := fun w => by kernel_rfl
  z5 := fun w => by kernel_rfl
  v5 := fun w => by kernel_rfl
  i5 := by kernel_rfl
  t9 := Try.underlying9
  a9 := fun w => by kernel_rfl
  z9 := fun w => by kernel_rfl
  v9 := fun w => by kernel_rfl
  i9 := by kernel_rfl
  t37 := Try.underlying53
  a37 := fun w => by kernel_rfl
  z37 := fun w => by kernel_rfl
  v37 := fun w => by kernel_rfl
  i37 := by kernel_rfl
  t47 := by kernel_rfl
  a47 := fun w => by kernel_rfl
  z47 := fun w => by kernel_rfl
  v47 := fun w => by kernel_rfl
  i47 := by kernel_rfl }

theorem clone57 (s : ByteArray) (w : World) (h : s.size ≤ 281474976710656) : Calls Try.prog 88 #[.string s] w fun e w' => e = .returned (.string s) ∧ Below w.heap.size w w' :=
  AnyPu.stringslite_Clone cloneLaid s w h

set_option maxHeartbeats 400000 in
theorem clone_any (s : ByteArray) (w : World) (h : s.size ≤ 281474976710656) : Calls Try.prog 82 #[.string s] w fun e w' => e = .returned (.string s) ∧ Below w.heap.size w w' := by
  have H57 := hid (clone57 s w h)
  go_enter Try.func82, Try.ntmps82
  go_wp2_with (go_at_call 88; refine H57.out.mono ?_; rintro e w1 ⟨rfl, hb1⟩)
  go_ret
  exact ⟨rfl, hb1⟩

theorem countS_range (most : Int) (s : RS) (hm : 0 ≤ most) : 0 ≤ (countS most s).1 ∧ (countS most s).1 ≤ most := by
  unfold countS
  split
  · simp [hm]
  · omega
theorem grown_below {w w' : World} {q : Nat} (hb : Below w.heap.size w w') : w.grownBy w' (some q) := ⟨hb.os, hb.tape, hb.output, hb.size, fun k hk _ => hb.block k hk⟩

theorem grown_box {w w3 : World} {O : Obj} {q : Nat} (hg : (w.alloc O).grownBy w3 (some q)) (hq : q < w.heap.size) : w3.heap[w.heap.size]? = some O :=
  (hg.block w.heap.size (by simp) (fun e => by cases e; omega)).trans (heap_alloc_new w O)
theorem grown_set {w w3 : World} {q : Nat} (hg : w.grownBy w3 (some q)) (b j : Nat) (v : Value) (hb : w.heap.size ≤ b) : w.grownBy (w3.setCell ⟨b, j, none⟩ v) (some q) :=
  hg.andThen (Lib.grownBy_setCell w3 b j v) (fun k hk => by cases hk; exact .inl hb)

end Go.Proofs.Ytbgmehanhilicaa

