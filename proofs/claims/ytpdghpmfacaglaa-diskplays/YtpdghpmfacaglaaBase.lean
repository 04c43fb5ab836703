/- The state of a disk in memory: its block, its map, the bytes of each file; what a call may turn and what it keeps. -/
import Derived.Test.YtpdghpmfacaglaaRows
import Derived.WalkKit
import Derived.WalkSpells
import Derived.WalkLawsBesides
import Derived.Maps.OwnSet
import Derived.Maps.RangeWalk
import Derived.Maps.Ext
import Derived.Lib.ConvBytes
namespace Go.Proofs.Ytpdghpmfacaglaa
open Go.RowKit Go.Maps

theorem law9 : Keyed Try.prog 9 := string_keyed Try.underlying9
def zeroF : Value := .agg #[.slice none 0 0, .int .i64 0]
theorem zero65 (w : World) : (zeroValue 65).run Try.prog w = .ok zeroF w := by kernel_rfl

/-- A file: the value of its slice, its bytes, how many are safe. -/
structure FileE where
  sv : Value
  bs : List UInt8
  safe : Nat

def FileE.val (f : FileE) : Value := .agg #[f.sv, .int .i64 f.safe]
/-- A file's value, by its four parts. -/
def mkF (c : Option Addr × Nat × Nat × Int) : Value := .agg #[.slice c.1 c.2.1 c.2.2.1, .int .i64 c.2.2.2]
def Rh (v : Value) : Option (DataW Value × List MemPlace) :=
  match v with
  | .agg cs => (match cs.toList with
    | [.slice _ _ _, .int .i64 _] => some (.held v, [])
    | _ => none)
  | _ => none
theorem Rh_mk (oa : Option Addr) (l c : Nat) (s : Int) : Rh (.agg #[.slice oa l c, .int .i64 s]) = some (.held (.agg #[.slice oa l c, .int .i64 s]), []) := rfl
theorem Rh_inv {v : Value} {y : DataW Value × List MemPlace} (h : Rh v = some y) : (∃ c, v = mkF c) ∧ y = (.held v, []) := by
  unfold Rh at h
  split at h
  · rename_i cs
    split at h
    · rename_i oa l c s e
      refine ⟨⟨(oa, l, c, s), ?_⟩, by simpa using h.symm⟩
      unfold mkF
      rw [← Array.toArray_toList (xs := cs), e]
    · cases h
  · cases h
def dmap (fs : List (List UInt8 × FileE)) : DataW Value := .map (fs.map fun p => (Lit.string p.1, .held p.2.val))
def flook (fs : List (List UInt8 × FileE)) (n : List UInt8) : Option FileE := (fs.find? (fun p => p.1 == n)).map (·.2)
def fval (fs : List (List UInt8 × FileE)) (n : List UInt8) : Value := match flook fs n with | some f => f.val | none => zeroF
def fins (x : List UInt8 × FileE) : List (List UInt8 × FileE) → List (List UInt8 × FileE)
  | [] => [x]
  | y :: r => if bytesBefore x.1 y.1 then x :: y :: r else y :: fins x r
def fdel (fs : List (List UInt8 × FileE)) (n : List UInt8) : List (List UInt8 × FileE) := fs.filter fun p => !(p.1 == n)
def fput (fs : List (List UInt8 × FileE)) (n : List UInt8) (f : FileE) : List (List UInt8 × FileE) := fins (n, f) (fdel fs n)
def total : List (List UInt8 × FileE) → Nat
  | [] => 0
  | p :: r => p.2.bs.length + total r
def lenAt (fs : List (List UInt8 × FileE)) (n : List UInt8) : Nat := match flook fs n with | some f => f.bs.length | none => 0

theorem dmap_size (fs : List (List UInt8 × FileE)) : Maps.size (dmap fs) = fs.length := by simp [dmap, Maps.size]

theorem sk (a b : List UInt8) : (Lit.string a).sameKey (.string b) = (a == b) := rfl

theorem find_dmap (n : List UInt8) : ∀ fs : List (List UInt8 × FileE),
    (fs.map fun p => (Lit.string p.1, (DataW.held p.2.val : DataW Value))).find? (fun p => p.1.sameKey (.string n)) = (fs.find? (fun p => p.1 == n)).map fun p => (Lit.string p.1, .held p.2.val)
  | [] => rfl
  | p :: r => by
    simp only [List.map_cons, List.find?_cons, sk]
    cases p.1 == n
    · exact find_dmap n r
    · rfl

theorem dmap_atKey (fs : List (List UInt8 × FileE)) (n : List UInt8) : (dmap fs).atKey (.string n) (.held zeroF) = .held (fval fs n) := by
  unfold DataW.atKey dmap
  simp only [find_dmap]
  unfold fval flook
  cases fs.find? (fun p => p.1 == n) <;> rfl

theorem dmap_has (n : List UInt8) (fs : List (List UInt8 × FileE)) : Maps.has (dmap fs) (.string n) = (flook fs n).isSome := by
  unfold flook dmap Maps.has
  simp only [Option.isSome_map]
  induction fs with
  | nil => rfl
  | cons p r ih =>
    simp only [List.map_cons, List.any_cons, sk, List.find?_cons]
    cases p.1 == n
    · simpa only [Bool.false_or] using ih
    · rfl

theorem insert_dmap (x : List UInt8 × FileE) : ∀ fs : List (List UInt8 × FileE),
    DataW.insert (Lit.string x.1, (DataW.held x.2.val : DataW Value)) (fs.map fun p => (Lit.string p.1, .held p.2.val)) = (fins x fs).map fun p => (Lit.string p.1, .held p.2.val)
  | [] => rfl
  | p :: r => by
    have ih := insert_dmap x r
    by_cases hb : bytesBefore x.1 p.1 = true
    · simp only [List.map_cons, DataW.insert, fins, Lit.before, hb, if_true]
    · simp only [List.map_cons, DataW.insert, fins, Lit.before, hb]
      simp only [Bool.false_eq_true, if_false, List.map_cons, ih]

theorem filter_dmap (n : List UInt8) : ∀ fs : List (List UInt8 × FileE),
    (fs.map fun p => (Lit.string p.1, (DataW.held p.2.val : DataW Value))).filter (fun p => !p.1.sameKey (.string n)) = (fdel fs n).map fun p => (Lit.string p.1, .held p.2.val)
  | [] => rfl
  | p :: r => by
    have ih := filter_dmap n r
    unfold fdel at ih ⊢
    simp only [List.map_cons, List.filter_cons, sk, ih]
    split <;> simp

theorem dmap_put (fs : List (List UInt8 × FileE)) (n : List UInt8) (f : FileE) : (dmap fs).put (.string n) (.held f.val) = dmap (fput fs n f) := by
  show DataW.map (DataW.insert (.string n, .held f.val) ((fs.map fun p => (Lit.string p.1, (DataW.held p.2.val : DataW Value))).filter (fun p => !p.1.sameKey (.string n)))) = _
  rw [filter_dmap, insert_dmap (n, f)]
  rfl

theorem mem_fins (x p : List UInt8 × FileE) : ∀ fs : List (List UInt8 × FileE), p ∈ fins x fs ↔ p = x ∨ p ∈ fs
  | [] => by simp [fins]
  | y :: r => by
    unfold fins
    split
    · simp
    · simp [mem_fins x p r]
      constructor
      · rintro (h | h | h) <;> simp [h]
      · rintro (h | h | h) <;> simp [h]

theorem mem_fput (fs : List (List UInt8 × FileE)) (n : List UInt8) (f : FileE) (p : List UInt8 × FileE) : p ∈ fput fs n f ↔ p = (n, f) ∨ (p ∈ fs ∧ p.1 ≠ n) := by
  unfold fput fdel
  rw [mem_fins]
  simp

theorem total_fins (x : List UInt8 × FileE) : ∀ fs : List (List UInt8 × FileE), total (fins x fs) = x.2.bs.length + total fs
  | [] => rfl
  | y :: r => by
    unfold fins
    split
    · rfl
    · simp only [total, total_fins x r]; omega

theorem len_fins (x : List UInt8 × FileE) : ∀ fs : List (List UInt8 × FileE), (fins x fs).length = fs.length + 1
  | [] => rfl
  | y :: r => by
    unfold fins
    split
    · rfl
    · simp [len_fins x r]

theorem pair_fins (x : List UInt8 × FileE) (T : (List UInt8 × FileE) → (List UInt8 × FileE) → Prop) (hs : ∀ p q, T p q → T q p) : ∀ fs : List (List UInt8 × FileE), fs.Pairwise T → (∀ p ∈ fs, T x p) → (fins x fs).Pairwise T
  | [], _, _ => by simp [fins]
  | y :: r, h, hx => by
    unfold fins
    split
    · exact List.Pairwise.cons hx h
    · have h' := List.pairwise_cons.1 h
      refine List.Pairwise.cons (fun p hp => ?_) (pair_fins x T hs r h'.2 (fun p hp => hx p (List.mem_cons_of_mem _ hp)))
      rcases (mem_fins x p r).1 hp with rfl | hp
      · exact hs _ _ (hx y (by simp))
      · exact h'.1 p hp

theorem total_fdel_le (fs : List (List UInt8 × FileE)) (n : List UInt8) : total (fdel fs n) + lenAt fs n ≤ total fs := by
  induction fs with
  | nil => simp [fdel, total, lenAt, flook]
  | cons p r ih =>
    unfold fdel lenAt flook at ih ⊢
    simp only [List.filter_cons, List.find?_cons]
    cases hp : p.1 == n
    · simp only [Bool.not_false, if_true, total]; omega
    · simp only [Bool.not_true, total, Option.map_some]
      have : total (r.filter fun p => !(p.1 == n)) ≤ total r := by omega
      simp only [Bool.false_eq_true, if_false]
      omega

theorem fdel_of_ne (n : List UInt8) : ∀ fs : List (List UInt8 × FileE), (∀ p ∈ fs, p.1 ≠ n) → fdel fs n = fs
  | fs, h => by unfold fdel; rw [List.filter_eq_self]; intro p hp; simp [h p hp]

def u8s (bs : List UInt8) : List Value := bs.map fun b => .int .u8 (b.toNat : Int)
theorem u8s_length (bs : List UInt8) : (u8s bs).length = bs.length := by simp [u8s]

/-- A slice of bytes of the disk's own. -/
def BytesAt (w : World) (S : Nat → Prop) (sv : Value) (bs : List UInt8) : Prop :=
  (sv = .slice none 0 0 ∧ bs = []) ∨
  ∃ g cap cur mk, sv = .slice (some ⟨g, 0, none⟩) bs.length cap ∧ S g ∧ w.heap[g]? = some (.cells cur 5 mk) ∧ bs.length ≤ cap ∧ cap ≤ maxLen ∧ cur.size = cap ∧ (mk = (0, 0) ∨ mk = (cap, cap + 1)) ∧ cur.toList.take bs.length = u8s bs

theorem BytesAt.kept {w w' : World} {S S' : Nat → Prop} {sv : Value} {bs : List UInt8} (h : BytesAt w S sv bs) (hS : ∀ k, S k → S' k) (hb : ∀ k, sv.ownBlock = some k → w'.heap[k]? = w.heap[k]?) : BytesAt w' S' sv bs := by
  rcases h with h | ⟨g, cap, cur, mk, rfl, hg, hh, r⟩
  · exact .inl h
  · exact .inr ⟨g, cap, cur, mk, rfl, hS g hg, (hb g rfl).trans hh, r⟩

theorem BytesAt.shape {w : World} {S : Nat → Prop} {sv : Value} {bs : List UInt8} (h : BytesAt w S sv bs) : ∃ oa cap, sv = .slice oa bs.length cap := by
  rcases h with ⟨rfl, rfl⟩ | ⟨g, cap, cur, mk, rfl, _⟩
  · exact ⟨none, 0, rfl⟩
  · exact ⟨_, cap, rfl⟩

theorem BytesAt.lt {w : World} {S : Nat → Prop} {sv : Value} {bs : List UInt8} (h : BytesAt w S sv bs) : ∀ k, sv.ownBlock = some k → S k ∧ k < w.heap.size := by
  intro k hk
  rcases h with ⟨rfl, rfl⟩ | ⟨g, cap, cur, mk, rfl, hg, hh, _⟩
  · simp [Value.ownBlock] at hk
  · simp [Value.ownBlock] at hk
    subst hk
    exact ⟨hg, (Array.getElem?_eq_some_iff.1 hh).1⟩

def MapAt (w : World) (mo : Option Nat) (fs : List (List UInt8 × FileE)) : Prop :=
  match mo with
  | none => fs = []
  | some b => w.ownsMap Try.prog 9 Rh b fs.length (dmap fs)

/-- What a call may turn: the blocks of S; all else that was there is as it was. -/
structure Keeps (S : Nat → Prop) (w w' : World) : Prop where
  os : w'.os = w.os
  tape : w'.tape = w.tape
  output : w'.output = w.output
  size : w.heap.size ≤ w'.heap.size
  block : ∀ k, k < w.heap.size → ¬ S k → w'.heap[k]? = w.heap[k]?

/-- A disk of so many bytes at block a, its map at mo, its files fs; all its blocks are among S. -/
structure DiskM (w : World) (S : Nat → Prop) (a size : Nat) (mo : Option Nat) (fs : List (List UInt8 × FileE)) : Prop where
  below : ∀ k, S k → k < w.heap.size
  self : S a
  cells : w.heap[a]? = some (.cells #[.int .i64 (size : Int), .map mo] 56 (0, 0))
  files : MapAt w mo fs
  mapS : ∀ b, mo = some b → S b
  owns : ∀ p ∈ fs, BytesAt w S p.2.sv p.2.bs ∧ p.2.safe ≤ p.2.bs.length
  apart : fs.Pairwise (fun p q => ∀ k, p.2.sv.ownBlock = some k → q.2.sv.ownBlock ≠ some k)
  room : total fs ≤ size
  small : size ≤ 16777216
  few : fs.length ≤ 256

end Go.Proofs.Ytpdghpmfacaglaa
