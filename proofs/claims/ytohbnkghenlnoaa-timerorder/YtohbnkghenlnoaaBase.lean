/- Timers in memory: their block, the row of the heap, the map of places; what a call may turn and what it keeps. -/
import Derived.Test.YtohbnkghenlnoaaPure
import Derived.WalkKit
import Derived.WalkSpells
import Derived.WalkLawsBesides
import Derived.Maps.OwnSet
import Derived.Maps.RangeWalk
import Derived.Maps.Ext
namespace Go.Proofs.Ytohbnkghenlnoaa
open Go.RowKit Go.Maps
set_option linter.unusedSimpArgs false
set_option linter.unusedVariables false

def I64 (k : Int) : Prop := -9223372036854775808 ≤ k ∧ k ≤ 9223372036854775807
theorem wf_of {k : Int} (h : I64 k) : (Lit.int .i64 k).wf = true := WalkArith.wf_i64 h

theorem law3 : Keyed Try.prog 3 := int_keyed Try.underlying3
theorem zero3 (w : World) : (zeroValue 3).run Try.prog w = .ok (.int .i64 0) w := by kernel_rfl

def tcells (x : Tm) : List Value := [.int .i64 x.key, .int .i64 x.tick]
def flat : List Tm → List Value
  | [] => []
  | x :: r => tcells x ++ flat r

theorem flat_length : ∀ l : List Tm, (flat l).length = l.length * 2
  | [] => rfl
  | x :: r => by simp [flat, tcells, flat_length r]; omega
theorem flat_append : ∀ l m : List Tm, flat (l ++ m) = flat l ++ flat m
  | [], m => rfl
  | x :: r, m => by simp [flat, flat_append r m]
theorem flat_at : ∀ (l : List Tm) (i : Nat) (x : Tm), l[i]? = some x → (flat l)[i * 2]? = some (.int .i64 x.key) ∧ (flat l)[i * 2 + 1]? = some (.int .i64 x.tick)
  | [], i, x, h => by simp at h
  | y :: r, 0, x, h => by simp at h; subst h; simp [flat, tcells]
  | y :: r, i + 1, x, h => by
    have ih := flat_at r i x (by simpa using h)
    have e : ∀ j, (flat (y :: r))[(i + 1) * 2 + j]? = (flat r)[i * 2 + j]? := fun j => by
      have e1 : (i + 1) * 2 + j = 2 + (i * 2 + j) := by omega
      rw [e1]
      show ([_, _] ++ flat r)[2 + (i * 2 + j)]? = _
      rw [List.getElem?_append_right (by simp)]
      congr 1
      simp
    exact ⟨by have := e 0; simp only [Nat.add_zero] at this; rw [this]; exact ih.1, by rw [e 1]; exact ih.2⟩
theorem flat_take : ∀ (l : List Tm) (n : Nat), (flat l).take (n * 2) = flat (l.take n)
  | [], n => by simp [flat]
  | x :: r, 0 => by simp [flat]
  | x :: r, n + 1 => by
    have e : (n + 1) * 2 = n * 2 + 2 := by omega
    rw [e]
    show (Value.int .i64 x.key :: Value.int .i64 x.tick :: flat r).take (n * 2 + 2) = _
    simp only [List.take_succ_cons, flat_take r n]
    rfl
theorem flat_set : ∀ (l : List Tm) (i : Nat) (x : Tm), ((flat l).set (i * 2) (.int .i64 x.key)).set (i * 2 + 1) (.int .i64 x.tick) = flat (l.set i x)
  | [], i, x => by simp [flat]
  | y :: r, 0, x => by simp [flat, tcells]
  | y :: r, i + 1, x => by
    have e : (i + 1) * 2 = i * 2 + 1 + 1 := by omega
    have e' : (i + 1) * 2 + 1 = (i * 2 + 1) + 1 + 1 := by omega
    rw [e', e]
    show ((Value.int .i64 y.key :: Value.int .i64 y.tick :: flat r).set (i * 2 + 1 + 1) _).set (i * 2 + 1 + 1 + 1) _ = _
    simp only [List.set_cons_succ, flat_set r i x]
    rfl
theorem flat_set1 (l : List Tm) (i : Nat) (x : Tm) (t : Int) (h : l[i]? = some x) : (flat l).set (i * 2 + 1) (.int .i64 t) = flat (l.set i ⟨x.key, t⟩) := by
  rw [← flat_set l i ⟨x.key, t⟩]
  have := (flat_at l i x h).1
  congr 1
  apply List.ext_getElem?
  intro j
  rw [List.getElem?_set]
  split
  · rename_i e; subst e
    split
    · exact this
    · rename_i hh; rw [List.getElem?_eq_none (by omega)]
  · rfl

/-- The map of places. -/
def pmap (ps : List (Int × Int)) : DataW Unit := .map (ps.map fun p => (Lit.int .i64 p.1, .lit (.int .i64 p.2)))
def plook (ps : List (Int × Int)) (k : Int) : Option Int := (ps.find? (fun p => p.1 == k)).map (·.2)
def pval (ps : List (Int × Int)) (k : Int) : Int := (plook ps k).getD 0
def pins (x : Int × Int) : List (Int × Int) → List (Int × Int)
  | [] => [x]
  | y :: r => if x.1 < y.1 then x :: y :: r else y :: pins x r
def pdel (ps : List (Int × Int)) (k : Int) : List (Int × Int) := ps.filter fun p => !(p.1 == k)
def pput (ps : List (Int × Int)) (k v : Int) : List (Int × Int) := pins (k, v) (pdel ps k)

theorem pmap_size (ps : List (Int × Int)) : Maps.size (pmap ps) = ps.length := by simp [pmap, Maps.size]
theorem sk (a b : Int) : (Lit.int .i64 a).sameKey (.int .i64 b) = (a == b) := by
  show (decide _ : Bool) = _
  rw [Bool.eq_iff_iff]; simp [Lit.sameKey]

theorem find_pmap (n : Int) : ∀ ps : List (Int × Int),
    (ps.map fun p => (Lit.int .i64 p.1, (DataW.lit (.int .i64 p.2) : DataW Unit))).find? (fun p => p.1.sameKey (.int .i64 n)) = (ps.find? (fun p => p.1 == n)).map fun p => (Lit.int .i64 p.1, .lit (.int .i64 p.2))
  | [] => rfl
  | p :: r => by
    simp only [List.map_cons, List.find?_cons, sk]
    cases p.1 == n
    · exact find_pmap n r
    · rfl

theorem pmap_atKey (ps : List (Int × Int)) (n : Int) : (pmap ps).atKey (.int .i64 n) (.lit (.int .i64 0)) = .lit (.int .i64 (pval ps n)) := by
  unfold DataW.atKey pmap
  simp only [find_pmap]
  unfold pval plook
  cases ps.find? (fun p => p.1 == n) <;> rfl

theorem pmap_has (n : Int) (ps : List (Int × Int)) : Maps.has (pmap ps) (.int .i64 n) = (plook ps n).isSome := by
  unfold plook pmap Maps.has
  simp only [Option.isSome_map]
  induction ps with
  | nil => rfl
  | cons p r ih =>
    simp only [List.map_cons, List.any_cons, sk, List.find?_cons]
    cases p.1 == n
    · simpa only [Bool.false_or] using ih
    · rfl

theorem insert_pmap (x : Int × Int) : ∀ ps : List (Int × Int),
    DataW.insert (Lit.int .i64 x.1, (DataW.lit (.int .i64 x.2) : DataW Unit)) (ps.map fun p => (Lit.int .i64 p.1, .lit (.int .i64 p.2))) = (pins x ps).map fun p => (Lit.int .i64 p.1, .lit (.int .i64 p.2))
  | [] => rfl
  | p :: r => by
    have ih := insert_pmap x r
    by_cases hb : x.1 < p.1
    · simp [List.map_cons, DataW.insert, pins, Lit.before, hb]
    · simp [List.map_cons, DataW.insert, pins, Lit.before, hb, ih]

theorem filter_pmap (n : Int) : ∀ ps : List (Int × Int),
    (ps.map fun p => (Lit.int .i64 p.1, (DataW.lit (.int .i64 p.2) : DataW Unit))).filter (fun p => !p.1.sameKey (.int .i64 n)) = (pdel ps n).map fun p => (Lit.int .i64 p.1, .lit (.int .i64 p.2))
  | [] => rfl
  | p :: r => by
    have ih := filter_pmap n r
    unfold pdel at ih ⊢
    simp only [List.map_cons, List.filter_cons, sk, ih]
    split <;> simp

theorem pmap_put (ps : List (Int × Int)) (k v : Int) : (pmap ps).put (.int .i64 k) (.lit (.int .i64 v)) = pmap (pput ps k v) := by
  show DataW.map (DataW.insert (.int .i64 k, .lit (.int .i64 v)) ((ps.map fun p => (Lit.int .i64 p.1, (DataW.lit (.int .i64 p.2) : DataW Unit))).filter (fun p => !p.1.sameKey (.int .i64 k)))) = _
  rw [filter_pmap, insert_pmap (k, v)]
  rfl
theorem pmap_del (ps : List (Int × Int)) (k : Int) : (pmap ps).del (.int .i64 k) = pmap (pdel ps k) := by
  show DataW.map ((ps.map fun p => (Lit.int .i64 p.1, (DataW.lit (.int .i64 p.2) : DataW Unit))).filter (fun p => !p.1.sameKey (.int .i64 k))) = _
  rw [filter_pmap]
  rfl

theorem mem_pins (x p : Int × Int) : ∀ ps : List (Int × Int), p ∈ pins x ps ↔ p = x ∨ p ∈ ps
  | [] => by simp [pins]
  | y :: r => by
    unfold pins
    split
    · simp
    · simp only [List.mem_cons, mem_pins x p r]
      constructor
      · rintro (h | h | h) <;> simp [h]
      · rintro (h | h | h) <;> simp [h]
theorem mem_pdel (ps : List (Int × Int)) (k : Int) (p : Int × Int) : p ∈ pdel ps k ↔ p ∈ ps ∧ p.1 ≠ k := by simp [pdel]
theorem mem_pput (ps : List (Int × Int)) (k v : Int) (p : Int × Int) : p ∈ pput ps k v ↔ p = (k, v) ∨ (p ∈ ps ∧ p.1 ≠ k) := by
  unfold pput; rw [mem_pins, mem_pdel]
theorem len_pins (x : Int × Int) : ∀ ps : List (Int × Int), (pins x ps).length = ps.length + 1
  | [] => rfl
  | y :: r => by
    unfold pins
    split
    · rfl
    · simp [len_pins x r]
def Apart (ps : List (Int × Int)) : Prop := ps.Pairwise fun p q => p.1 ≠ q.1
theorem apart_pdel {ps : List (Int × Int)} (k : Int) (h : Apart ps) : Apart (pdel ps k) := List.Pairwise.filter _ h
theorem apart_pins (x : Int × Int) : ∀ ps : List (Int × Int), Apart ps → (∀ p ∈ ps, x.1 ≠ p.1) → Apart (pins x ps)
  | [], _, _ => by simp [pins, Apart]
  | y :: r, h, hx => by
    unfold pins
    split
    · exact List.Pairwise.cons hx h
    · have h' := List.pairwise_cons.1 h
      refine List.Pairwise.cons (fun p hp => ?_) (apart_pins x r h'.2 (fun p hp => hx p (List.mem_cons_of_mem _ hp)))
      rcases (mem_pins x p r).1 hp with rfl | hp
      · exact fun e => hx y (by simp) e.symm
      · exact h'.1 p hp
theorem apart_pput {ps : List (Int × Int)} (k v : Int) (h : Apart ps) : Apart (pput ps k v) :=
  apart_pins (k, v) _ (apart_pdel k h) (fun p hp e => ((mem_pdel _ _ _).1 hp).2 e.symm)

theorem len_pdel {k v : Int} : ∀ ps : List (Int × Int), Apart ps → (k, v) ∈ ps → (pdel ps k).length + 1 = ps.length
  | [], _, h => by simp at h
  | y :: r, h, hm => by
    have h' := List.pairwise_cons.1 h
    unfold pdel
    rw [List.filter_cons]
    by_cases e : y.1 = k
    · have e2 : (r.filter fun p => !(p.1 == k)) = r := by
        rw [List.filter_eq_self]; intro p hp
        have := h'.1 p hp
        rw [e] at this
        simpa using fun e => this e.symm
      simp only [e, beq_self_eq_true, Bool.not_true, Bool.false_eq_true, if_false, e2, List.length_cons]
    · have hm' : (k, v) ∈ r := by
        rcases List.mem_cons.1 hm with h0 | h0
        · exact absurd (by rw [← h0]) e
        · exact h0
      have ih := len_pdel r h'.2 hm'
      unfold pdel at ih
      have e' : (y.1 == k) = false := by simpa using e
      simp only [e', Bool.not_false, if_true, List.length_cons]
      omega
theorem len_pput {ps : List (Int × Int)} {k v u : Int} (h : Apart ps) (hm : (k, u) ∈ ps) : (pput ps k v).length = ps.length := by
  unfold pput; rw [len_pins]; exact len_pdel ps h hm
theorem pdel_none {ps : List (Int × Int)} {k : Int} (h : ∀ p ∈ ps, p.1 ≠ k) : pdel ps k = ps := by
  unfold pdel; rw [List.filter_eq_self]; intro p hp; simpa using h p hp
theorem len_pput_new {ps : List (Int × Int)} {k v : Int} (h : ∀ p ∈ ps, p.1 ≠ k) : (pput ps k v).length = ps.length + 1 := by
  unfold pput; rw [len_pins, pdel_none h]

theorem plook_some {k v : Int} : ∀ ps : List (Int × Int), Apart ps → (k, v) ∈ ps → plook ps k = some v
  | [], _, h => by simp at h
  | y :: r, h, hm => by
    have h' := List.pairwise_cons.1 h
    unfold plook
    rw [List.find?_cons]
    by_cases e : y.1 = k
    · have : y = (k, v) := by
        rcases List.mem_cons.1 hm with h0 | h0
        · exact h0.symm
        · exact absurd e (by have := h'.1 _ h0; simpa using this)
      subst this
      simp
    · have hm' : (k, v) ∈ r := by
        rcases List.mem_cons.1 hm with h0 | h0
        · exact absurd (by rw [← h0]) e
        · exact h0
      have e' : (y.1 == k) = false := by simpa using e
      rw [e']
      exact plook_some r h'.2 hm'
theorem plook_none {ps : List (Int × Int)} {k : Int} (h : ∀ p ∈ ps, p.1 ≠ k) : plook ps k = none := by
  unfold plook
  rw [Option.map_eq_none_iff, List.find?_eq_none]
  intro p hp
  simpa using h p hp

def MapAt (w : World) (mo : Option Nat) (ps : List (Int × Int)) : Prop :=
  match mo with
  | none => ps = []
  | some b => w.ownsMap Try.prog 3 (plainElem Try.prog 3) b ps.length (pmap ps)

theorem MapAt.kept {w w' : World} {mo : Option Nat} {ps : List (Int × Int)} (h : MapAt w mo ps) (hb : ∀ b, mo = some b → w'.heap[b]? = w.heap[b]?) : MapAt w' mo ps := by
  cases mo with
  | none => exact h
  | some b =>
    obtain ⟨es, clock, hm, r⟩ := h
    exact ⟨es, clock, (hb b rfl).trans hm, r⟩

theorem tight {w : World} {b m : Nat} {D : DataW Unit} (h : w.ownsMap Try.prog 3 (plainElem Try.prog 3) b m D) : w.ownsMap Try.prog 3 (plainElem Try.prog 3) b (Maps.size D) D := by
  obtain ⟨es, clock, hm, F, hs, rfl⟩ := h
  exact ⟨es, clock, hm, F, by simp [Maps.size, length_sorted], rfl⟩

theorem MapAt.look_ok {w : World} {mo : Option Nat} {ps : List (Int × Int)} (h : MapAt w mo ps) (k : Int) (hk : I64 k) :
    (Instr.lookup 47 (.map mo) (.int .i64 k) true).run Try.prog w = .ok (.tuple #[.int .i64 (pval ps k), .bool (plook ps k).isSome]) w := by
  have hkey := keyOf_int_mk Try.underlying3 (wf_of hk)
  cases mo with
  | none =>
    have e : ps = [] := h
    subst e
    exact Maps.look_nil true law3 Try.underlying47 (zero3 w) hkey
  | some b =>
    obtain ⟨v, qs, hrun, hv⟩ := World.ownsMap.look_ok h law3 Try.underlying47 (zero3 w) (zd := .lit (.int .i64 0)) (zp := []) (plainElem_int Try.underlying3 (by decide)) hkey
    rw [pmap_atKey] at hv
    obtain ⟨x, e1, e2⟩ := plainElem_int_inv Try.underlying3 hv
    subst e1
    have e3 : pval ps k = x := by
      have := congrArg Prod.fst e2.1
      simpa using this
    rw [hrun, e3, pmap_has]

/-- The map says where each key's timer stands. -/
structure Agree (ps : List (Int × Int)) (l : List Tm) : Prop where
  len : ps.length = l.length
  apart : Apart ps
  here : ∀ i, i < l.length → ((g l i).key, (i : Int)) ∈ ps
  there : ∀ p ∈ ps, ∃ i, i < l.length ∧ p = ((g l i).key, (i : Int))

/-- What a call may turn: the blocks of S; all else that was there is as it was. -/
structure Keeps (S : Nat → Prop) (w w' : World) : Prop where
  os : w'.os = w.os
  tape : w'.tape = w.tape
  output : w'.output = w.output
  size : w.heap.size ≤ w'.heap.size
  block : ∀ k, k < w.heap.size → ¬ S k → w'.heap[k]? = w.heap[k]?

/-- Timers at block a: the heap's row v with l, the map mo with ps; all their blocks are among S. -/
structure QM (w : World) (S : Nat → Prop) (a : Nat) (v : Value) (mo : Option Nat) (l : List Tm) (ps : List (Int × Int)) : Prop where
  below : ∀ k, S k → k < w.heap.size
  self : S a
  cells : w.heap[a]? = some (.cells #[v, .map mo] 51 (0, 0))
  row : w.ownsRow 0 54 2 v l.length (flat l)
  rowS : ∀ k, v.ownBlock = some k → S k
  map : MapAt w mo ps
  mapS : ∀ b, mo = some b → S b
  agree : Agree ps l
  few : l.length ≤ 1000
  rng : ∀ x ∈ l, I64 x.key

end Go.Proofs.Ytohbnkghenlnoaa
