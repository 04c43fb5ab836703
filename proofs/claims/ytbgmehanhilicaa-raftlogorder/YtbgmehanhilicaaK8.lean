/- The reader: what is left of some bytes, in memory; spoil, number, count. -/
import Derived.Test.YtbgmehanhilicaaK7
import Derived.Lib.BufferWrite
import Derived.Shelf.Pu.Clone
namespace Go.Proofs.Ytbgmehanhilicaa
open Go.RowKit Go.Maps
set_option linter.unusedSimpArgs false
set_option linter.unusedVariables false
set_option maxRecDepth 100000

/-- A reader in block q. -/
structure Rd (w : World) (q : Nat) (s : RS) : Prop where
  box : w.heap[q]? = some (.cells #[.string (strOf s.rest), .bool s.wrong] 116)
  len : s.rest.length ≤ maxLen
theorem Rd.c0 {w : World} {q : Nat} {s : RS} (h : Rd w q s) : w.cell? ⟨q, 0, none⟩ = some (.string (strOf s.rest)) := cell_blk h.box 0 _ rfl
theorem Rd.c1 {w : World} {q : Nat} {s : RS} (h : Rd w q s) : w.cell? ⟨q, 1, none⟩ = some (.bool s.wrong) := cell_blk h.box 1 _ rfl
theorem frozen_blk {w : World} {q : Nat} {cs : Array Value} {T : TypeId} (h : w.heap[q]? = some (.cells cs T)) (j : Nat) : w.frozen? ⟨q, j, none⟩ = false := by
  simp [World.frozen?, h]
theorem Rd.f {w : World} {q : Nat} {s : RS} (h : Rd w q s) (j : Nat) : w.frozen? ⟨q, j, none⟩ = false := frozen_blk h.box j
theorem Rd.lt {w : World} {q : Nat} {s : RS} (h : Rd w q s) : q < w.heap.size := by
  rcases Nat.lt_or_ge q w.heap.size with h1 | h1
  · exact h1
  · have := h.box; rw [Array.getElem?_eq_none h1] at this; cases this
theorem Rd.set0 {w : World} {q : Nat} {s : RS} (h : Rd w q s) (l : List UInt8) (hl : l.length ≤ maxLen) : Rd (w.setCell ⟨q, 0, none⟩ (.string (strOf l))) q ⟨l, s.wrong⟩ := by
  refine ⟨?_, hl⟩
  rw [setCell_eq_setRow w q 0 _ 116 (0, 0) _ h.box, setRow_heap w q _ _ 116 (0, 0) h.box]
  rfl
theorem Rd.spoil {w : World} {q : Nat} {s : RS} (h : Rd w q s) : Rd ((w.setCell ⟨q, 0, none⟩ (.string ⟨#[]⟩)).setCell ⟨q, 1, none⟩ (.bool true)) q spoiled := by
  have h1 := h.set0 [] (by simp)
  refine ⟨?_, by simp [spoiled]⟩
  have h1b := h1.box
  have e : (Value.string (strOf [])) = .string ⟨#[]⟩ := rfl
  rw [e] at h1b
  rw [setCell_eq_setRow _ q 1 _ 116 (0, 0) _ h1b, setRow_heap _ q _ _ 116 (0, 0) h1b]
  rfl
theorem Rd.kept {w w' : World} {q : Nat} {s : RS} (h : Rd w q s) (hb : w'.heap[q]? = w.heap[q]?) : Rd w' q s := ⟨hb.trans h.box, h.len⟩

theorem extract_drop (l : List UInt8) (k : Nat) : (strOf l).extract k l.length = strOf (l.drop k) := by
  rw [Lib.extract_eq, strOf_data, List.take_of_length_le (by simp)]
  rfl
theorem extract_take (l : List UInt8) (k : Nat) : (strOf l).extract 0 k = strOf (l.take k) := by
  rw [Lib.extract_eq, strOf_data]
  simp [strOf]

end Go.Proofs.Ytbgmehanhilicaa

/- The reader's text, record, done, five. -/
namespace Go.Proofs.Ytbgmehanhilicaa
open Go.RowKit Go.Maps
set_option linter.unusedSimpArgs false
set_option linter.unusedVariables false
set_option maxRecDepth 100000

def cloneRen : Go.Shelf.Ren := ⟨fun | 25 => 88 | n => n, fun | 37 => 53 | 47 => 118 | n => n, fun | n => n⟩
theorem cloneLaid : Go.Proofs.LaysPu.n25 Try.prog cloneRen := {
  mixed := by kernel_rfl
  f25 := Try.func88.trans (congrArg some (by kernel_rfl))
  t0 := by kernel_rfl
  a0 := fun w => by kernel_rfl
  z0 := fun w => by kernel_rfl
  v0 := fun w => by kernel_rfl
  i0 := by kernel_rfl
  t3 := Try.underlying3
  a3 := fun w => by kernel_rfl
  z3 := fun w => by kernel_rfl
  v3 := fun w => by kernel_rfl
  i3 := by kernel_rfl
  t4 := Try.underlying4
  a4 := fun w => by kernel_rfl
  z4 := fun w => by kernel_rfl
  v4 := fun w => by kernel_rfl
  i4 := by kernel_rfl
  t5 := Try.underlying5
  a5 := fun w => by kernel_rfl
  z5 := fun w => by kernel_rfl
  v5 := fun w => by kernel_rfl
  i5 := by kernel_rfl
  t9 := Try.underlying9
  a9 := fun w => by kernel_rfl
  z9 := fun w => by kernel_rfl
  v9 := fun w => by kernel_rfl
  i9 := by kernel_rfl
  t37 := Try.underlying53
  a37 := fun w => by kernel_rfl
  z37 := fun w => by kernel_rfl
  v37 := fun w => by kernel_rfl
  i37 := by kernel_rfl
  t47 := by kernel_rfl
  a47 := fun w => by kernel_rfl
  z47 := fun w => by kernel_rfl
  v47 := fun w => by kernel_rfl
  i47 := by kernel_rfl }

theorem clone57 (s : ByteArray) (w : World) (h : s.size ≤ 281474976710656) : Calls Try.prog 88 #[.string s] w fun e w' => e = .returned (.string s) ∧ Below w.heap.size w w' :=
  AnyPu.stringslite_Clone cloneLaid s w h

set_option maxHeartbeats 400000 in
theorem clone_any (s : ByteArray) (w : World) (h : s.size ≤ 281474976710656) : Calls Try.prog 82 #[.string s] w fun e w' => e = .returned (.string s) ∧ Below w.heap.size w w' := by
  have H57 := hid (clone57 s w h)
  go_enter Try.func82, Try.ntmps82
  go_wp2_with (go_at_call 88; refine H57.out.mono ?_; rintro e w1 ⟨rfl, hb1⟩)
  go_ret
  exact ⟨rfl, hb1⟩

theorem countS_range (most : Int) (s : RS) (hm : 0 ≤ most) : 0 ≤ (countS most s).1 ∧ (countS most s).1 ≤ most := by
  unfold countS
  split
  · simp [hm]
  · omega
theorem grown_below {w w' : World} {q : Nat} (hb : Below w.heap.size w w') : w.grownBy w' (some q) := ⟨hb.os, hb.tape, hb.output, hb.size, fun k hk _ => hb.block k hk⟩

theorem grown_box {w w3 : World} {O : Obj} {q : Nat} (hg : (w.alloc O).grownBy w3 (some q)) (hq : q < w.heap.size) : w3.heap[w.heap.size]? = some O :=
  (hg.block w.heap.size (by simp) (fun e => by cases e; omega)).trans (heap_alloc_new w O)
theorem grown_set {w w3 : World} {q : Nat} (hg : w.grownBy w3 (some q)) (b j : Nat) (v : Value) (hb : w.heap.size ≤ b) : w.grownBy (w3.setCell ⟨b, j, none⟩ v) (some q) :=
  hg.andThen (Lib.grownBy_setCell w3 b j v) (fun k hk => by cases hk; exact .inl hb)

end Go.Proofs.Ytbgmehanhilicaa

