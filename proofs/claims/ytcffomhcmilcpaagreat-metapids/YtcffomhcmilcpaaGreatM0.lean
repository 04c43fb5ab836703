/- A partition's state without memory: lists of brokers, what decisions make of a state. -/
import Derived.WalkKit
namespace Go.Proofs.YtcffomhcmilcpaaGreat
set_option linter.unusedSimpArgs false
set_option linter.unusedVariables false

def I64 (n : Int) : Prop := -9223372036854775808 ≤ n ∧ n ≤ 9223372036854775807

structure Pt where
  id : Int
  leader : Int
  epoch : Int
  ver : Int
  isr : List Int
  reps : List Int
  add : List Int
  rem : List Int
  min : Int
def Pt.zero : Pt := ⟨0, 0, 0, 0, [], [], [], [], 0⟩
def hasB (l : List Int) (x : Int) : Bool := decide (x ∈ l)
def lackB (l : List Int) (x : Int) : Bool := !hasB l x
def upB (n m : Int) : Bool := decide (1 ≤ n ∧ n ≤ m)
def idsB (l : List Int) : Bool := decide (l.Nodup ∧ ∀ x ∈ l, 1 ≤ x ∧ x ≤ 7)
def inL (l m : List Int) : List Int := l.filter (hasB m)
def outL (l m : List Int) : List Int := l.filter (lackB m)
def numB (p : Pt) : Bool := upB p.id 16 && upB p.min 5 && upB p.epoch 1000000000 && upB p.ver 1000000000
def eachB (p : Pt) : Bool := idsB p.isr && idsB p.reps && idsB p.add && idsB p.rem
def listB (p : Pt) : Bool :=
  eachB p && decide (0 < p.isr.length) && p.isr.all (hasB p.reps) && p.add.all (hasB p.reps) && p.rem.all (hasB p.reps) && p.rem.all (lackB p.add) && decide (0 < (outL p.reps p.rem).length)
def rightB (p : Pt) : Bool := numB p && listB p && (decide (p.leader = 0) || hasB p.isr p.leader)
def headL (l : List Int) : Int := l.headD 0
def heirP (p : Pt) (up : List Int) : Int := headL (outL (inL (inL p.reps p.isr) up) [p.leader])
def nextP (p : Pt) (l : Int) : Pt := if l = p.leader then { p with ver := p.ver + 1 } else { p with leader := l, epoch := p.epoch + 1, ver := p.ver + 1 }
def overB (p : Pt) : Bool := decide (1000000000 < p.epoch ∨ 1000000000 < p.ver)
def changedP (p : Pt) (l : Int) : Pt × Int := if overB (nextP p l) then (Pt.zero, 20) else (nextP p l, 0)
def movingB (p : Pt) : Bool := decide (0 < p.add.length) || decide (0 < p.rem.length)
def targetsP (p : Pt) : List Int := outL p.reps p.rem
def electP (p : Pt) (l : Int) : Pt × Int :=
  if !rightB p || (!decide (l = 0) && !upB l 7) then (Pt.zero, 1)
  else if !decide (l = 0) && lackB p.isr l then (Pt.zero, 19)
  else if l = p.leader then (p, 0) else changedP p l
def fenIsr (p : Pt) (b : Int) : List Int := if 1 < p.isr.length then outL p.isr [b] else p.isr
def fenP (p : Pt) (b : Int) : Pt := { p with isr := fenIsr p b }
def fenL (p : Pt) (b : Int) (up : List Int) : Int := if p.leader = b then heirP (fenP p b) up else p.leader
def fenceP (p : Pt) (b : Int) (up : List Int) : Pt × Int :=
  if !rightB p || !upB b 7 then (Pt.zero, 1)
  else if fenL p b up = p.leader ∧ (fenIsr p b).length = p.isr.length then (fenP p b, 0) else changedP (fenP p b) (fenL p b up)
def backP (p : Pt) (b : Int) : Pt × Int :=
  if !rightB p || !upB b 7 then (Pt.zero, 1)
  else if p.leader ≠ 0 ∨ lackB p.isr b = true then (p, 0) else changedP p b
def heldP (p : Pt) (e v : Int) : Int :=
  if e < p.epoch ∨ (e = p.epoch ∧ v < p.ver) then 13 else if p.epoch < e ∨ p.ver < v then 14 else 0
def syncB (p : Pt) (l up : List Int) : Bool := idsB l && hasB l p.leader && l.all (hasB p.reps) && (outL l p.isr).all (hasB up)
def alterP (p : Pt) (l e v : Int) (isr up : List Int) : Pt × Int :=
  if !rightB p then (Pt.zero, 1)
  else if heldP p e v ≠ 0 then (Pt.zero, heldP p e v)
  else if l = 0 ∨ l ≠ p.leader then (Pt.zero, 19)
  else if !syncB p isr up then (Pt.zero, 1)
  else changedP { p with isr := inL p.reps isr } l
def mayB (t : List Int) : Bool := upB t.length 5 && idsB t
def begP (p : Pt) (t : List Int) : Pt := { p with add := outL t p.reps, rem := outL p.reps t, reps := t ++ outL p.reps t }
def beginP (p : Pt) (t up : List Int) : Pt × Int :=
  if !rightB p || !mayB t then (Pt.zero, 1)
  else if movingB p then (Pt.zero, 19)
  else if !(outL t p.reps).all (hasB up) then (Pt.zero, 8)
  else if p.reps = t then (p, 0) else changedP (begP p t) p.leader
def setP (p : Pt) (g : List Int) : Pt := { p with reps := outL p.reps g, isr := outL p.isr g, add := [], rem := [] }
def setL (p : Pt) (g up : List Int) : Int := if hasB g p.leader then heirP (setP p g) up else p.leader
def settledP (p : Pt) (g up : List Int) : Pt × Int := changedP (setP p g) (setL p g up)
def finishP (p : Pt) (up : List Int) : Pt × Int :=
  if !rightB p then (Pt.zero, 1)
  else if !movingB p || !(targetsP p).all (hasB p.isr) then (Pt.zero, 19) else settledP p p.rem up
def cancelP (p : Pt) (up : List Int) : Pt × Int :=
  if !rightB p then (Pt.zero, 1)
  else if !movingB p || p.isr.all (hasB p.add) then (Pt.zero, 19) else settledP p p.add up
def sameP (p q : Pt) : Bool :=
  decide (p.id = q.id) && decide (p.leader = q.leader) && decide (p.epoch = q.epoch) && decide (p.ver = q.ver) && decide (p.min = q.min) && decide (p.isr = q.isr) && decide (p.reps = q.reps) && decide (p.add = q.add) && decide (p.rem = q.rem)

theorem hasB_iff {l : List Int} {x : Int} : hasB l x = true ↔ x ∈ l := by simp [hasB]
theorem lackB_iff {l : List Int} {x : Int} : lackB l x = true ↔ x ∉ l := by simp [lackB, hasB]
theorem upB_iff {n m : Int} : upB n m = true ↔ 1 ≤ n ∧ n ≤ m := by simp [upB]
theorem idsB_iff {l : List Int} : idsB l = true ↔ l.Nodup ∧ ∀ x ∈ l, 1 ≤ x ∧ x ≤ 7 := by simp [idsB]
theorem mem_inL {l m : List Int} {x : Int} : x ∈ inL l m ↔ x ∈ l ∧ x ∈ m := by simp [inL, hasB_iff]
theorem mem_outL {l m : List Int} {x : Int} : x ∈ outL l m ↔ x ∈ l ∧ x ∉ m := by simp [outL, lackB_iff]
theorem nodup_inL {l m : List Int} (h : l.Nodup) : (inL l m).Nodup := h.filter _
theorem nodup_outL {l m : List Int} (h : l.Nodup) : (outL l m).Nodup := h.filter _
theorem outL_self {l m : List Int} (h : ∀ x ∈ l, x ∉ m) : outL l m = l := List.filter_eq_self.2 fun x hx => lackB_iff.2 (h x hx)
theorem inL_self {l m : List Int} (h : ∀ x ∈ l, x ∈ m) : inL l m = l := List.filter_eq_self.2 fun x hx => hasB_iff.2 (h x hx)
theorem len_outL (l m : List Int) : (outL l m).length ≤ l.length := List.length_filter_le _ _
theorem len_inL (l m : List Int) : (inL l m).length ≤ l.length := List.length_filter_le _ _
theorem outL_full {l m : List Int} (h : (outL l m).length = l.length) : outL l m = l := by
  unfold outL at *
  exact List.filter_eq_self.2 (List.length_filter_eq_length_iff.1 h)

/-- A state that may be. -/
structure RightP (p : Pt) : Prop where
  id : 1 ≤ p.id ∧ p.id ≤ 16
  min : 1 ≤ p.min ∧ p.min ≤ 5
  epoch : 1 ≤ p.epoch ∧ p.epoch ≤ 1000000000
  ver : 1 ≤ p.ver ∧ p.ver ≤ 1000000000
  isr : p.isr.Nodup ∧ ∀ x ∈ p.isr, 1 ≤ x ∧ x ≤ 7
  reps : p.reps.Nodup ∧ ∀ x ∈ p.reps, 1 ≤ x ∧ x ≤ 7
  add : p.add.Nodup ∧ ∀ x ∈ p.add, 1 ≤ x ∧ x ≤ 7
  rem : p.rem.Nodup ∧ ∀ x ∈ p.rem, 1 ≤ x ∧ x ≤ 7
  some : p.isr ≠ []
  isrIn : ∀ x ∈ p.isr, x ∈ p.reps
  addIn : ∀ x ∈ p.add, x ∈ p.reps
  remIn : ∀ x ∈ p.rem, x ∈ p.reps
  apart : ∀ x ∈ p.rem, x ∉ p.add
  left : outL p.reps p.rem ≠ []
  lead : p.leader = 0 ∨ p.leader ∈ p.isr
theorem len_pos {l : List Int} : 0 < l.length ↔ l ≠ [] := by cases l <;> simp
theorem rightB_iff {p : Pt} : rightB p = true ↔ RightP p := by
  unfold rightB numB listB eachB
  simp only [Bool.and_eq_true, Bool.or_eq_true, decide_eq_true_eq, upB_iff, idsB_iff, List.all_eq_true, hasB_iff, lackB_iff, len_pos]
  constructor
  · rintro ⟨⟨⟨⟨⟨a, b⟩, c⟩, d⟩, ⟨⟨⟨⟨⟨⟨⟨⟨e, f⟩, g⟩, h⟩, i⟩, j⟩, k⟩, l⟩, m⟩, n⟩, o⟩
    exact ⟨a, b, c, d, e, f, g, h, i, j, k, l, m, n, o⟩
  · rintro ⟨a, b, c, d, e, f, g, h, i, j, k, l, m, n, o⟩
    exact ⟨⟨⟨⟨⟨a, b⟩, c⟩, d⟩, ⟨⟨⟨⟨⟨⟨⟨⟨e, f⟩, g⟩, h⟩, i⟩, j⟩, k⟩, l⟩, m⟩, n⟩, o⟩
theorem few_len : ∀ (n : Nat) (l : List Int), l.Nodup → (∀ x ∈ l, 1 ≤ x ∧ x ≤ (n : Int)) → l.length ≤ n
  | 0, l, _, h => by
    cases l with
    | nil => simp
    | cons x r => have := h x (by simp); omega
  | n + 1, l, hd, h => by
    have h1 : (l.erase ((n : Int) + 1)).length ≤ n := few_len n _ (hd.erase _) fun x hx => by
      have := (hd.mem_erase_iff).1 hx
      have := h x this.2
      omega
    have := List.length_erase (a := ((n : Int) + 1)) (l := l)
    split at this <;> omega
theorem ids_len {l : List Int} (h : l.Nodup ∧ ∀ x ∈ l, 1 ≤ x ∧ x ≤ 7) : l.length ≤ 7 := few_len 7 l h.1 h.2
end Go.Proofs.YtcffomhcmilcpaaGreat
