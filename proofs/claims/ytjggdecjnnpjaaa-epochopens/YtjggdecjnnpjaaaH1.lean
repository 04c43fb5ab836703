/- The state of a disk in memory: its block, its map, the bytes of each file; what a call may turn and what it keeps. -/
import Derived.Test.YtjggdecjnnpjaaaH0
import Derived.Test.YtjggdecjnnpjaaaRows
import Derived.WalkKit
import Derived.WalkSpells
import Derived.WalkLawsBesides
import Derived.Maps.OwnSet
import Derived.Maps.RangeWalk
import Derived.Maps.Ext
import Derived.Lib.ConvBytes
import Derived.Deep.RegionLaw
import Derived.Shelf.SlIter.Nil
import Derived.Shelf.SortM.Plain
import Derived.Shelf.SortM.SortNone
import Derived.Shelf.SlGeneric
import Derived.Ground.GgzProg
import Derived.Ground.SlgmProg
import Derived.Test.YtjggdecjnnpjaaaProg
namespace Go.Proofs.Ytjggdecjnnpjaaa
open Go.RowKit Go.Maps

theorem law9 : Keyed Try.prog 9 := string_keyed Try.underlying9
def zeroF : Value := .agg #[.slice none 0 0, .int .i64 0]
theorem zero65 (w : World) : (zeroValue 65).run Try.prog w = .ok zeroF w := by kernel_rfl

/-- A file: the value of its slice, its bytes, how many are safe. -/
structure FileE where
  sv : Value
  bs : List UInt8
  safe : Nat

def FileE.val (f : FileE) : Value := .agg #[f.sv, .int .i64 f.safe]
/-- A file's value, by its four parts. -/
def mkF (c : Option Addr × Nat × Nat × Int) : Value := .agg #[.slice c.1 c.2.1 c.2.2.1, .int .i64 c.2.2.2]
def Rh (v : Value) : Option (DataW Value × List MemPlace) :=
  match v with
  | .agg cs => (match cs.toList with
    | [.slice _ _ _, .int .i64 _] => some (.held v, [])
    | _ => none)
  | _ => none
theorem Rh_mk (oa : Option Addr) (l c : Nat) (s : Int) : Rh (.agg #[.slice oa l c, .int .i64 s]) = some (.held (.agg #[.slice oa l c, .int .i64 s]), []) := rfl
theorem Rh_inv {v : Value} {y : DataW Value × List MemPlace} (h : Rh v = some y) : (∃ c, v = mkF c) ∧ y = (.held v, []) := by
  unfold Rh at h
  split at h
  · rename_i cs
    split at h
    · rename_i oa l c s e
      refine ⟨⟨(oa, l, c, s), ?_⟩, by simpa using h.symm⟩
      unfold mkF
      rw [← Array.toArray_toList (xs := cs), e]
    · cases h
  · cases h
def dmap (fs : List (List UInt8 × FileE)) : DataW Value := .map (fs.map fun p => (Lit.string p.1, .held p.2.val))
def flook (fs : List (List UInt8 × FileE)) (n : List UInt8) : Option FileE := (fs.find? (fun p => p.1 == n)).map (·.2)
def fval (fs : List (List UInt8 × FileE)) (n : List UInt8) : Value := match flook fs n with | some f => f.val | none => zeroF
def fins (x : List UInt8 × FileE) : List (List UInt8 × FileE) → List (List UInt8 × FileE)
  | [] => [x]
  | y :: r => if bytesBefore x.1 y.1 then x :: y :: r else y :: fins x r
def fdel (fs : List (List UInt8 × FileE)) (n : List UInt8) : List (List UInt8 × FileE) := fs.filter fun p => !(p.1 == n)
def fput (fs : List (List UInt8 × FileE)) (n : List UInt8) (f : FileE) : List (List UInt8 × FileE) := fins (n, f) (fdel fs n)
def total : List (List UInt8 × FileE) → Nat
  | [] => 0
  | p :: r => p.2.bs.length + total r
def lenAt (fs : List (List UInt8 × FileE)) (n : List UInt8) : Nat := match flook fs n with | some f => f.bs.length | none => 0

theorem dmap_size (fs : List (List UInt8 × FileE)) : Maps.size (dmap fs) = fs.length := by simp [dmap, Maps.size]

theorem sk (a b : List UInt8) : (Lit.string a).sameKey (.string b) = (a == b) := rfl

theorem find_dmap (n : List UInt8) : ∀ fs : List (List UInt8 × FileE),
    (fs.map fun p => (Lit.string p.1, (DataW.held p.2.val : DataW Value))).find? (fun p => p.1.sameKey (.string n)) = (fs.find? (fun p => p.1 == n)).map fun p => (Lit.string p.1, .held p.2.val)
  | [] => rfl
  | p :: r => by
    simp only [List.map_cons, List.find?_cons, sk]
    cases p.1 == n
    · exact find_dmap n r
    · rfl

theorem dmap_atKey (fs : List (List UInt8 × FileE)) (n : List UInt8) : (dmap fs).atKey (.string n) (.held zeroF) = .held (fval fs n) := by
  unfold DataW.atKey dmap
  simp only [find_dmap]
  unfold fval flook
  cases fs.find? (fun p => p.1 == n) <;> rfl

theorem dmap_has (n : List UInt8) (fs : List (List UInt8 × FileE)) : Maps.has (dmap fs) (.string n) = (flook fs n).isSome := by
  unfold flook dmap Maps.has
  simp only [Option.isSome_map]
  induction fs with
  | nil => rfl
  | cons p r ih =>
    simp only [List.map_cons, List.any_cons, sk, List.find?_cons]
    cases p.1 == n
    · simpa only [Bool.false_or] using ih
    · rfl

theorem insert_dmap (x : List UInt8 × FileE) : ∀ fs : List (List UInt8 × FileE),
    DataW.insert (Lit.string x.1, (DataW.held x.2.val : DataW Value)) (fs.map fun p => (Lit.string p.1, .held p.2.val)) = (fins x fs).map fun p => (Lit.string p.1, .held p.2.val)
  | [] => rfl
  | p :: r => by
    have ih := insert_dmap x r
    by_cases hb : bytesBefore x.1 p.1 = true
    · simp only [List.map_cons, DataW.insert, fins, Lit.before, hb, if_true]
    · simp only [List.map_cons, DataW.insert, fins, Lit.before, hb]
      simp only [Bool.false_eq_true, if_false, List.map_cons, ih]

theorem filter_dmap (n : List UInt8) : ∀ fs : List (List UInt8 × FileE),
    (fs.map fun p => (Lit.string p.1, (DataW.held p.2.val : DataW Value))).filter (fun p => !p.1.sameKey (.string n)) = (fdel fs n).map fun p => (Lit.string p.1, .held p.2.val)
  | [] => rfl
  | p :: r => by
    have ih := filter_dmap n r
    unfold fdel at ih ⊢
    simp only [List.map_cons, List.filter_cons, sk, ih]
    split <;> simp

theorem dmap_put (fs : List (List UInt8 × FileE)) (n : List UInt8) (f : FileE) : (dmap fs).put (.string n) (.held f.val) = dmap (fput fs n f) := by
  show DataW.map (DataW.insert (.string n, .held f.val) ((fs.map fun p => (Lit.string p.1, (DataW.held p.2.val : DataW Value))).filter (fun p => !p.1.sameKey (.string n)))) = _
  rw [filter_dmap, insert_dmap (n, f)]
  rfl

theorem mem_fins (x p : List UInt8 × FileE) : ∀ fs : List (List UInt8 × FileE), p ∈ fins x fs ↔ p = x ∨ p ∈ fs
  | [] => by simp [fins]
  | y :: r => by
    unfold fins
    split
    · simp
    · simp [mem_fins x p r]
      constructor
      · rintro (h | h | h) <;> simp [h]
      · rintro (h | h | h) <;> simp [h]

theorem mem_fput (fs : List (List UInt8 × FileE)) (n : List UInt8) (f : FileE) (p : List UInt8 × FileE) : p ∈ fput fs n f ↔ p = (n, f) ∨ (p ∈ fs ∧ p.1 ≠ n) := by
  unfold fput fdel
  rw [mem_fins]
  simp

theorem total_fins (x : List UInt8 × FileE) : ∀ fs : List (List UInt8 × FileE), total (fins x fs) = x.2.bs.length + total fs
  | [] => rfl
  | y :: r => by
    unfold fins
    split
    · rfl
    · simp only [total, total_fins x r]; omega

theorem len_fins (x : List UInt8 × FileE) : ∀ fs : List (List UInt8 × FileE), (fins x fs).length = fs.length + 1
  | [] => rfl
  | y :: r => by
    unfold fins
    split
    · rfl
    · simp [len_fins x r]

theorem pair_fins (x : List UInt8 × FileE) (T : (List UInt8 × FileE) → (List UInt8 × FileE) → Prop) (hs : ∀ p q, T p q → T q p) : ∀ fs : List (List UInt8 × FileE), fs.Pairwise T → (∀ p ∈ fs, T x p) → (fins x fs).Pairwise T
  | [], _, _ => by simp [fins]
  | y :: r, h, hx => by
    unfold fins
    split
    · exact List.Pairwise.cons hx h
    · have h' := List.pairwise_cons.1 h
      refine List.Pairwise.cons (fun p hp => ?_) (pair_fins x T hs r h'.2 (fun p hp => hx p (List.mem_cons_of_mem _ hp)))
      rcases (mem_fins x p r).1 hp with rfl | hp
      · exact hs _ _ (hx y (by simp))
      · exact h'.1 p hp

theorem total_fdel_le (fs : List (List UInt8 × FileE)) (n : List UInt8) : total (fdel fs n) + lenAt fs n ≤ total fs := by
  induction fs with
  | nil => simp [fdel, total, lenAt, flook]
  | cons p r ih =>
    unfold fdel lenAt flook at ih ⊢
    simp only [List.filter_cons, List.find?_cons]
    cases hp : p.1 == n
    · simp only [Bool.not_false, if_true, total]; omega
    · simp only [Bool.not_true, total, Option.map_some]
      have : total (r.filter fun p => !(p.1 == n)) ≤ total r := by omega
      simp only [Bool.false_eq_true, if_false]
      omega

theorem fdel_of_ne (n : List UInt8) : ∀ fs : List (List UInt8 × FileE), (∀ p ∈ fs, p.1 ≠ n) → fdel fs n = fs
  | fs, h => by unfold fdel; rw [List.filter_eq_self]; intro p hp; simp [h p hp]

def u8s (bs : List UInt8) : List Value := bs.map fun b => .int .u8 (b.toNat : Int)
theorem u8s_length (bs : List UInt8) : (u8s bs).length = bs.length := by simp [u8s]

/-- A slice of bytes of the disk's own. -/
def BytesAt (w : World) (S : Nat → Prop) (sv : Value) (bs : List UInt8) : Prop :=
  (sv = .slice none 0 0 ∧ bs = []) ∨
  ∃ g cap cur mk, sv = .slice (some ⟨g, 0, none⟩) bs.length cap ∧ S g ∧ w.heap[g]? = some (.cells cur 5 mk) ∧ bs.length ≤ cap ∧ cap ≤ maxLen ∧ cur.size = cap ∧ (mk = (0, 0) ∨ mk = (cap, cap + 1)) ∧ cur.toList.take bs.length = u8s bs

theorem BytesAt.kept {w w' : World} {S S' : Nat → Prop} {sv : Value} {bs : List UInt8} (h : BytesAt w S sv bs) (hS : ∀ k, S k → S' k) (hb : ∀ k, sv.ownBlock = some k → w'.heap[k]? = w.heap[k]?) : BytesAt w' S' sv bs := by
  rcases h with h | ⟨g, cap, cur, mk, rfl, hg, hh, r⟩
  · exact .inl h
  · exact .inr ⟨g, cap, cur, mk, rfl, hS g hg, (hb g rfl).trans hh, r⟩

theorem BytesAt.shape {w : World} {S : Nat → Prop} {sv : Value} {bs : List UInt8} (h : BytesAt w S sv bs) : ∃ oa cap, sv = .slice oa bs.length cap := by
  rcases h with ⟨rfl, rfl⟩ | ⟨g, cap, cur, mk, rfl, _⟩
  · exact ⟨none, 0, rfl⟩
  · exact ⟨_, cap, rfl⟩

theorem BytesAt.lt {w : World} {S : Nat → Prop} {sv : Value} {bs : List UInt8} (h : BytesAt w S sv bs) : ∀ k, sv.ownBlock = some k → S k ∧ k < w.heap.size := by
  intro k hk
  rcases h with ⟨rfl, rfl⟩ | ⟨g, cap, cur, mk, rfl, hg, hh, _⟩
  · simp [Value.ownBlock] at hk
  · simp [Value.ownBlock] at hk
    subst hk
    exact ⟨hg, (Array.getElem?_eq_some_iff.1 hh).1⟩

def MapAt (w : World) (mo : Option Nat) (fs : List (List UInt8 × FileE)) : Prop :=
  match mo with
  | none => fs = []
  | some b => w.ownsMap Try.prog 9 Rh b fs.length (dmap fs)

/-- What a call may turn: the blocks of S; all else that was there is as it was. -/
structure Keeps (S : Nat → Prop) (w w' : World) : Prop where
  os : w'.os = w.os
  tape : w'.tape = w.tape
  output : w'.output = w.output
  size : w.heap.size ≤ w'.heap.size
  block : ∀ k, k < w.heap.size → ¬ S k → w'.heap[k]? = w.heap[k]?

/-- A disk of so many bytes at block a, its map at mo, its files fs; all its blocks are among S. -/
structure DiskM (w : World) (S : Nat → Prop) (a size : Nat) (mo : Option Nat) (fs : List (List UInt8 × FileE)) : Prop where
  below : ∀ k, S k → k < w.heap.size
  self : S a
  cells : w.heap[a]? = some (.cells #[.int .i64 (size : Int), .map mo] 61 (0, 0))
  files : MapAt w mo fs
  mapS : ∀ b, mo = some b → S b
  owns : ∀ p ∈ fs, BytesAt w S p.2.sv p.2.bs ∧ p.2.safe ≤ p.2.bs.length
  apart : fs.Pairwise (fun p q => ∀ k, p.2.sv.ownBlock = some k → q.2.sv.ownBlock ≠ some k)
  room : total fs ≤ size
  small : size ≤ 16777216
  few : fs.length ≤ 256

end Go.Proofs.Ytjggdecjnnpjaaa

/- What the small functions do: pick, New, the look at a name. -/
namespace Go.Proofs.Ytjggdecjnnpjaaa
open Go.RowKit Go.Maps


theorem neg_tmod (c n : Int) : (-(c + 1)).tmod n = -((c + 1).tmod n) := by rw [Int.neg_tmod]

def pickI (c n : Int) : Int := if c < 0 then (-(c + 1)) % n else c % n

theorem pickI_range (c n : Int) (hn : 1 ≤ n) : 0 ≤ pickI c n ∧ pickI c n < n := by
  unfold pickI
  split
  · exact ⟨Int.emod_nonneg _ (by omega), Int.emod_lt_of_pos _ (by omega)⟩
  · exact ⟨Int.emod_nonneg _ (by omega), Int.emod_lt_of_pos _ (by omega)⟩

set_option maxHeartbeats 400000 in
theorem new_yes (n : Int) (w : World) (h1 : 1 ≤ n) (h2 : n ≤ 16777216) :
    Calls Try.prog 9 #[.int .i64 n] w fun e w' => e = .returned (.tuple #[.pointer (some ⟨w.heap.size, 0, none⟩), .int .i64 0]) ∧ w' = w.alloc (.cells #[.int .i64 n, .map none] 61) := by
  have h3 : ¬ (n < 1) := by omega
  have h4 : ¬ (16777216 < n) := by omega
  go_enter Try.func9, Try.ntmps9
  go_wp2
  go_ret2
  exact ⟨rfl, rfl⟩

def nameByteB (c : Int) : Bool := decide (97 ≤ c) && decide (c ≤ 122) || decide (48 ≤ c) && decide (c ≤ 57) || c == 45 || c == 46

set_option maxHeartbeats 400000 in
theorem nameByte_any (c : Int) (w : World) (h0 : 0 ≤ c) (h1 : c ≤ 255) :
    Calls Try.prog 55 #[.int .u8 c] w fun e w' => e = .returned (.bool (nameByteB c)) ∧ w' = w := by
  go_enter Try.func55, Try.ntmps55
  go_wp2
  all_goals
    go_ret
    refine ⟨ret_bool ?_, rfl⟩
    rw [Bool.eq_iff_iff]
    simp [nameByteB]
    try omega

def nameB (s : ByteArray) : Bool := decide (1 ≤ s.size) && decide (s.size ≤ 64) && s.data.toList.all fun c => nameByteB (c.toNat : Int)

theorem all_step (s : ByteArray) (k : Nat) (h : k < s.size) : (s.data.toList.take (k + 1)).all (fun c => nameByteB (c.toNat : Int)) = ((s.data.toList.take k).all (fun c => nameByteB (c.toNat : Int)) && nameByteB (s[k].toNat : Int)) := by
  rw [List.take_succ_eq_append_getElem (by simpa using h), List.all_append]
  simp
  rfl

theorem all_end (s : ByteArray) (k : Nat) (h : k < s.size) (hb : nameByteB (s[k].toNat : Int) = false) : (s.data.toList).all (fun c => nameByteB (c.toNat : Int)) = false := by
  have hk : k < s.data.toList.length := by simpa using h
  rw [List.all_eq_false]
  exact ⟨s.data.toList[k], List.getElem_mem hk, by simp; exact hb⟩

set_option maxHeartbeats 800000 in
theorem isName_any (s : ByteArray) (w : World) (hs : s.size ≤ maxLen) :
    Calls Try.prog 39 #[.string s] w fun e w' => e = .returned (.bool (nameB s)) ∧ w' = w := by
  unfold maxLen at hs
  by_cases h1 : s.size < 1
  · have h1' : (s.size : Int) < 1 := by omega
    go_enter Try.func39, Try.ntmps39
    go_wp2
    go_ret
    exact ⟨ret_bool (by have : ¬ 1 ≤ s.size := by omega
                        simp [nameB, this]), rfl⟩
  by_cases h2 : 64 < s.size
  · have h1' : ¬ (s.size : Int) < 1 := by omega
    have h2' : 64 < (s.size : Int) := by omega
    go_enter Try.func39, Try.ntmps39
    go_wp2
    go_ret
    exact ⟨ret_bool (by have : ¬ s.size ≤ 64 := by omega
                        simp [nameB, this]), rfl⟩
  have h1' : ¬ (s.size : Int) < 1 := by omega
  have h2' : ¬ 64 < (s.size : Int) := by omega
  go_enter Try.func39, Try.ntmps39
  go_wp2
  go_loop [14] (fun i => ∃ k : Nat, k ≤ s.size ∧ i = .int .i64 k ∧ Hid ((s.data.toList.take k).all (fun c => nameByteB (c.toNat : Int)) = true)) (fun i => s.size - (intOf i).toNat)
  case atStart => exact ⟨0, Nat.zero_le _, rfl, by show _ = true; simp⟩
  case round =>
    obtain ⟨k, hk, rfl, hall⟩ := hrel
    by_cases hlt : k < s.size
    · have hb0 : 0 ≤ (s[k].toNat : Int) := by omega
      have hb1 : (s[k].toNat : Int) ≤ 255 := by have := s[k].toNat_lt; omega
      cases hc : nameByteB (s[k].toNat : Int)
      · have H := all_end s k hlt hc
        have HH : Hid ((s.data.toList).all (fun c => nameByteB (c.toNat : Int)) = false) := H
        clear H
        go_wp2_with (go_at_call 55; refine (nameByte_any _ _ hb0 hb1).mono ?_; rintro e w' ⟨rfl, rfl⟩; rw [hc])
        go_ret
        exact ⟨ret_bool (by simp only [nameB, HH.out, Bool.and_false]), rfl⟩
      · have HH : Hid ((s.data.toList.take (k + 1)).all (fun c => nameByteB (c.toNat : Int)) = true) := by show _ = true; rw [all_step s k hlt, hall.out, hc]; rfl
        go_wp2_with (go_at_call 55; refine (nameByte_any _ _ hb0 hb1).mono ?_; rintro e w' ⟨rfl, rfl⟩; rw [hc])
        go_round
        case rel => exact ⟨k + 1, by omega, by go_num, HH⟩
        case measure => simp [intOf]; omega
    · go_wp2
      go_ret
      have hk' : k = s.size := by omega
      subst hk'
      have h3 := hall.out
      rw [List.take_of_length_le (by simp)] at h3
      exact ⟨ret_bool (by simp only [nameB, h3, Bool.and_true]; have : 1 ≤ s.size ∧ s.size ≤ 64 := by omega
                          simp [this]), rfl⟩
end Go.Proofs.Ytjggdecjnnpjaaa

/- What reads and the one store do: Size, Synced, Read, put. -/
namespace Go.Proofs.Ytjggdecjnnpjaaa
open Go.RowKit Go.Maps
open Go.WideMaps (keyOf_string_mk)
set_option maxRecDepth 100000

theorem MapAt.kept {w w' : World} {mo : Option Nat} {fs : List (List UInt8 × FileE)} (h : MapAt w mo fs) (hb : ∀ b, mo = some b → w'.heap[b]? = w.heap[b]?) : MapAt w' mo fs := by
  cases mo with
  | none => exact h
  | some b =>
    obtain ⟨es, clock, hm, r⟩ := h
    exact ⟨es, clock, (hb b rfl).trans hm, r⟩

theorem MapAt.lt {w : World} {mo : Option Nat} {fs : List (List UInt8 × FileE)} (h : MapAt w mo fs) : ∀ b, mo = some b → b < w.heap.size := by
  intro b hb
  subst hb
  exact World.ownsMap.lt h

theorem MapAt.look {w : World} {mo : Option Nat} {fs : List (List UInt8 × FileE)} (h : MapAt w mo fs) (n : ByteArray) (hn : n.size ≤ maxLen) :
    (Instr.lookup 59 (.map mo) (.string n) false).run Try.prog w = .ok (fval fs n.data.toList) w := by
  have hkey := keyOf_string_mk Try.underlying9 hn
  cases mo with
  | none =>
    have e : fs = [] := h
    subst e
    exact Maps.look_nil false law9 Try.underlying59 (zero65 w) hkey
  | some b =>
    obtain ⟨v, ps, hrun, hv⟩ := World.ownsMap.lookup h law9 Try.underlying59 (zero65 w) (zd := .held zeroF) (zp := []) rfl hkey
    rw [dmap_atKey] at hv
    have hv := (Rh_inv hv).2
    simp only [Prod.mk.injEq, DataW.held.injEq] at hv
    rw [hrun, ← hv.1]

theorem MapAt.look_ok {w : World} {mo : Option Nat} {fs : List (List UInt8 × FileE)} (h : MapAt w mo fs) (n : ByteArray) (hn : n.size ≤ maxLen) :
    (Instr.lookup 59 (.map mo) (.string n) true).run Try.prog w = .ok (.tuple #[fval fs n.data.toList, .bool (flook fs n.data.toList).isSome]) w := by
  have hkey := keyOf_string_mk Try.underlying9 hn
  cases mo with
  | none =>
    have e : fs = [] := h
    subst e
    exact Maps.look_nil true law9 Try.underlying59 (zero65 w) hkey
  | some b =>
    obtain ⟨v, ps, hrun, hv⟩ := World.ownsMap.look_ok h law9 Try.underlying59 (zero65 w) (zd := .held zeroF) (zp := []) rfl hkey
    rw [dmap_atKey] at hv
    have hv := (Rh_inv hv).2
    simp only [Prod.mk.injEq, DataW.held.injEq] at hv
    rw [hrun, ← hv.1, dmap_has]

theorem flook_mem {fs : List (List UInt8 × FileE)} {n : List UInt8} {f : FileE} (h : flook fs n = some f) : (n, f) ∈ fs := by
  unfold flook at h
  obtain ⟨p, hp, rfl⟩ := Option.map_eq_some_iff.1 h
  have h1 := List.mem_of_find?_eq_some hp
  have h2 := List.find?_some hp
  simp at h2
  rw [← h2]
  exact h1

def safeAt (fs : List (List UInt8 × FileE)) (n : List UInt8) : Nat := match flook fs n with | some f => f.safe | none => 0
def bsAt (fs : List (List UInt8 × FileE)) (n : List UInt8) : List UInt8 := match flook fs n with | some f => f.bs | none => []

theorem DiskM.at_name {w : World} {S : Nat → Prop} {a size : Nat} {mo : Option Nat} {fs : List (List UInt8 × FileE)} (h : DiskM w S a size mo fs) (n : List UInt8) :
    ∃ oa cap, fval fs n = .agg #[.slice oa (bsAt fs n).length cap, .int .i64 (safeAt fs n : Int)] ∧ BytesAt w S (.slice oa (bsAt fs n).length cap) (bsAt fs n) ∧ safeAt fs n ≤ (bsAt fs n).length ∧ (bsAt fs n).length ≤ 16777216 := by
  unfold fval bsAt safeAt
  cases hf : flook fs n with
  | none => exact ⟨none, 0, rfl, .inl ⟨rfl, rfl⟩, Nat.le_refl _, by simp⟩
  | some f =>
    obtain ⟨hb, hs⟩ := h.owns _ (flook_mem hf)
    obtain ⟨oa, cap, e⟩ := hb.shape
    have ht := total_fdel_le fs n
    unfold lenAt at ht
    rw [hf] at ht
    have := h.room
    have := h.small
    exact ⟨oa, cap, by show Value.agg #[f.sv, _] = _; rw [e], by rw [← e]; exact hb, hs, by simp only at ht ⊢; omega⟩

theorem DiskM.c0 {w : World} {S : Nat → Prop} {a size : Nat} {mo : Option Nat} {fs : List (List UInt8 × FileE)} (h : DiskM w S a size mo fs) : w.cell? ⟨a, 0, none⟩ = some (.int .i64 (size : Int)) := by simp [World.cell?, h.cells]
theorem DiskM.c1 {w : World} {S : Nat → Prop} {a size : Nat} {mo : Option Nat} {fs : List (List UInt8 × FileE)} (h : DiskM w S a size mo fs) : w.cell? ⟨a, 1, none⟩ = some (.map mo) := by simp [World.cell?, h.cells]
theorem DiskM.f1 {w : World} {S : Nat → Prop} {a size : Nat} {mo : Option Nat} {fs : List (List UInt8 × FileE)} (h : DiskM w S a size mo fs) : w.frozen? ⟨a, 1, none⟩ = false := by simp [World.frozen?, h.cells]

theorem fld0 (x y : Value) (w : World) : (Instr.field 65 (.agg #[x, y]) 0).run Try.prog w = .ok x w := by kernel_rfl
theorem fld1 (x y : Value) (w : World) : (Instr.field 65 (.agg #[x, y]) 1).run Try.prog w = .ok y w := by kernel_rfl

theorem size_any {w : World} {S : Nat → Prop} {a size : Nat} {mo : Option Nat} {fs : List (List UInt8 × FileE)} (h : DiskM w S a size mo fs) (n : ByteArray) (hn : n.size ≤ maxLen) :
    Calls Try.prog 23 #[.pointer (some ⟨a, 0, none⟩), .string n] w fun e w' => e = .returned (.int .i64 ((bsAt fs n.data.toList).length : Int)) ∧ w' = w := by
  have c1 := h.c1
  have hl := h.files.look n hn
  obtain ⟨oa, cap, e, _⟩ := h.at_name n.data.toList
  rw [e] at hl
  clear h e
  have hf := fld0
  go_enter Try.func23, Try.ntmps23
  go_wp2
  go_ret
  exact ⟨rfl, rfl⟩

theorem BytesAt.cell {w : World} {S : Nat → Prop} {g cap : Nat} {bs : List UInt8} (h : BytesAt w S (.slice (some ⟨g, 0, none⟩) bs.length cap) bs) (i : Nat) (hi : i < bs.length) : w.cell? ⟨g, i, none⟩ = some (.int .u8 (bs[i].toNat : Int)) := by
  rcases h with ⟨h, _⟩ | ⟨g', cap', cur, mk, e, _, hh, hc, _, hsz, _, ht⟩
  · cases h
  · cases e
    have h1 : (cur.toList.take bs.length)[i]? = (u8s bs)[i]? := by rw [ht]
    have h2 : (u8s bs)[i]? = some (.int .u8 (bs[i].toNat : Int)) := by simp [u8s, hi]
    rw [h2, List.getElem?_take, if_pos hi] at h1
    simp only [World.cell?, hh]
    simpa using h1

theorem BytesAt.convert {w : World} {S : Nat → Prop} {oa : Option Addr} {cap : Nat} {bs : List UInt8} (h : BytesAt w S (.slice oa bs.length cap) bs) :
    (convert 57 9 (.slice oa bs.length cap)).run Try.prog w = .ok (.string (strOf bs)) w := by
  have h' := h
  rcases h with ⟨e, rfl⟩ | ⟨g', cap', cur, mk, e, _, hh, hc, _, hsz, _, ht⟩
  · cases e
    exact run_convert_bytes_nil w 57 5 Try.underlying57 Try.underlying5 _ _ 9 Try.underlying9
  · cases e
    have := run_convert_bytes_arg w 57 5 Try.underlying57 Try.underlying5 g' 0 bs.length cap (bs.map fun b => (b.toNat : Int)) (by simp) (fun i hi => by
      rw [Nat.zero_add, h'.cell i hi]
      simp [hi]) 9 Try.underlying9
    rw [this, strOfNums_u8]

theorem read_yes {w : World} {S : Nat → Prop} {a size : Nat} {mo : Option Nat} {fs : List (List UInt8 × FileE)} (h : DiskM w S a size mo fs) (n : ByteArray) (hn : n.size ≤ maxLen) (hs : (flook fs n.data.toList).isSome = true) :
    Calls Try.prog 41 #[.pointer (some ⟨a, 0, none⟩), .string n] w fun e w' => e = .returned (.tuple #[.string (strOf (bsAt fs n.data.toList)), .int .i64 0]) ∧ Below w.heap.size w w' := by
  have c1 := h.c1
  have hl := h.files.look_ok n hn
  obtain ⟨oa, cap, e, hb, _⟩ := h.at_name n.data.toList
  rw [e, hs] at hl
  have hcv : ∀ o, (convert 57 9 (.slice oa (bsAt fs n.data.toList).length cap)).run Try.prog (w.alloc o) = .ok (.string (strOf (bsAt fs n.data.toList))) (w.alloc o) := fun o =>
    (hb.kept (fun _ hk => hk) (fun k hk => Below.heap_alloc w o k (hb.lt k hk).2)).convert
  clear h e hs hb
  go_enter Try.func41, Try.ntmps41
  go_wp2
  go_ret2
  exact ⟨rfl, (Below.refl _ _).alloc (Nat.le_refl _) _⟩

theorem read_no {w : World} {S : Nat → Prop} {a size : Nat} {mo : Option Nat} {fs : List (List UInt8 × FileE)} (h : DiskM w S a size mo fs) (n : ByteArray) (hn : n.size ≤ maxLen) (hs : (flook fs n.data.toList).isSome = false) :
    Calls Try.prog 41 #[.pointer (some ⟨a, 0, none⟩), .string n] w fun e w' => e = .returned (.tuple #[.string ByteArray.empty, .int .i64 8]) ∧ Below w.heap.size w w' := by
  have c1 := h.c1
  have hl := h.files.look_ok n hn
  obtain ⟨oa, cap, e, hb, _⟩ := h.at_name n.data.toList
  rw [e, hs] at hl
  clear h e hs hb
  go_enter Try.func41, Try.ntmps41
  go_wp2
  go_ret2
  exact ⟨rfl, (Below.refl _ _).alloc (Nat.le_refl _) _⟩

end Go.Proofs.Ytjggdecjnnpjaaa

/- What put does: the file stands in the map, nothing else is turned. -/
namespace Go.Proofs.Ytjggdecjnnpjaaa
open Go.RowKit Go.Maps
open Go.WideMaps (keyOf_string_mk)
set_option maxRecDepth 100000
set_option linter.unusedSimpArgs false

set_option maxHeartbeats 400000 in
theorem put_some_walk (w w2 : World) (a b : Nat) (sv : Value) (safe : Int) (n : ByteArray) (hsv : ∃ oa l c, sv = .slice oa l c)
    (c1 : ∀ o, (w.alloc o).cell? ⟨a, 1, none⟩ = some (.map (some b)))
    (hrun : (Instr.mapUpdate 59 (.map (some b)) (.string n) (.agg #[sv, .int .i64 safe])).run Try.prog (w.alloc (.cells #[sv, .int .i64 safe] 65)).drew = .ok () w2) :
    Calls Try.prog 26 #[.pointer (some ⟨a, 0, none⟩), .string n, .agg #[sv, .int .i64 safe]] w fun e w' => e = .returned (.tuple #[]) ∧ w' = w2 := by
  obtain ⟨oa, l, c, rfl⟩ := hsv
  have he := fun W r => run_eql_map_nil (P := Try.prog) W 59 9 65 r Try.underlying59
  go_enter Try.func26, Try.ntmps26
  go_wp2
  go_region
  go_end0
  exact ⟨rfl, rfl⟩

set_option maxHeartbeats 400000 in
theorem put_none_walk (w w2 : World) (a : Nat) (sv : Value) (safe : Int) (n : ByteArray) (hsv : ∃ oa l c, sv = .slice oa l c)
    (c1 : ∀ o, (w.alloc o).cell? ⟨a, 1, none⟩ = some (.map none)) (f1 : ∀ o o2, ((w.alloc o).alloc o2).frozen? ⟨a, 1, none⟩ = false)
    (c2 : ∀ o o2, ((w.alloc o).alloc o2).cell? ⟨a, 1, none⟩ = some (.map none)) (ha : a < w.heap.size)
    (c3 : ∀ u o o2, (((w.setCell ⟨a, 1, none⟩ u).alloc o).alloc o2).cell? ⟨a, 1, none⟩ = some u)
    (hrun : (Instr.mapUpdate 59 (.map (some (w.heap.size + 1))) (.string n) (.agg #[sv, .int .i64 safe])).run Try.prog (((w.setCell ⟨a, 1, none⟩ (.map (some (w.heap.size + 1)))).alloc (.cells #[sv, .int .i64 safe] 65)).alloc (.map #[] 0)).drew = .ok () w2) :
    Calls Try.prog 26 #[.pointer (some ⟨a, 0, none⟩), .string n, .agg #[sv, .int .i64 safe]] w fun e w' => e = .returned (.tuple #[]) ∧ w' = w2 := by
  obtain ⟨oa, l, c, rfl⟩ := hsv
  have he := fun W r => run_eql_map_nil (P := Try.prog) W 59 9 65 r Try.underlying59
  have hmm := @run_makeMap Try.prog
  go_enter Try.func26, Try.ntmps26
  go_wp2
  go_region
  go_end0
  exact ⟨rfl, rfl⟩

theorem tight {w : World} {b m : Nat} {D : DataW Value} (h : w.ownsMap Try.prog 9 Rh b m D) : w.ownsMap Try.prog 9 Rh b (Maps.size D) D := by
  obtain ⟨es, clock, hm, F, hs, rfl⟩ := h
  exact ⟨es, clock, hm, F, by simp [Maps.size, length_sorted], rfl⟩

theorem BytesAt.block {w : World} {S : Nat → Prop} {sv : Value} {bs : List UInt8} (h : BytesAt w S sv bs) : ∀ k, sv.ownBlock = some k → ∃ cur mk, w.heap[k]? = some (.cells cur 5 mk) := by
  intro k hk
  rcases h with ⟨rfl, rfl⟩ | ⟨g, cap, cur, mk, rfl, hg, hh, _⟩
  · simp [Value.ownBlock] at hk
  · simp [Value.ownBlock] at hk
    subst hk
    exact ⟨cur, mk, hh⟩

theorem heap_drew (w : World) (k : Nat) : w.drew.heap[k]? = w.heap[k]? := rfl
theorem size_drew (w : World) : w.drew.heap.size = w.heap.size := rfl

theorem apart_fput {fs : List (List UInt8 × FileE)} (n : List UInt8) (f : FileE) (hA : fs.Pairwise (fun p q => ∀ k, p.2.sv.ownBlock = some k → q.2.sv.ownBlock ≠ some k))
    (hap : ∀ p ∈ fs, p.1 ≠ n → ∀ k, f.sv.ownBlock = some k → p.2.sv.ownBlock ≠ some k) : (fput fs n f).Pairwise (fun p q => ∀ k, p.2.sv.ownBlock = some k → q.2.sv.ownBlock ≠ some k) := by
  refine pair_fins (n, f) _ (fun p q h k hk hq => h k hq hk) _ (List.Pairwise.filter _ hA) (fun p hp => ?_)
  have h2 := List.mem_filter.1 hp
  exact hap p h2.1 (by simpa using h2.2)

/-- put, whatever the disk: its map holds the file under its name. -/
theorem put_any {w : World} {S : Nat → Prop} {a size : Nat} {mo : Option Nat} {fs : List (List UInt8 × FileE)} (h : DiskM w S a size mo fs) (n : ByteArray) (hn : n.size ≤ maxLen) (f : FileE)
    (hf : BytesAt w S f.sv f.bs) (hsafe : f.safe ≤ f.bs.length) (hap : ∀ p ∈ fs, p.1 ≠ n.data.toList → ∀ k, f.sv.ownBlock = some k → p.2.sv.ownBlock ≠ some k)
    (hroom : total (fput fs n.data.toList f) ≤ size) (hfew : (fput fs n.data.toList f).length ≤ 256) :
    Calls Try.prog 26 #[.pointer (some ⟨a, 0, none⟩), .string n, f.val] w fun e w' => e = .returned (.tuple #[]) ∧ ∃ S' mo', DiskM w' S' a size mo' (fput fs n.data.toList f) ∧ (∀ k, S' k → S k ∨ w.heap.size ≤ k) ∧ (∀ k, S k → S' k) ∧ Keeps S w w' := by
  have hsh : ∃ oa l c, f.sv = .slice oa l c := by obtain ⟨oa, c, e⟩ := hf.shape; exact ⟨oa, _, c, e⟩
  have hRf : Rh f.val = some (.held f.val, []) := by obtain ⟨oa, l, c, e⟩ := hsh; unfold FileE.val; rw [e]; exact Rh_mk _ _ _ _
  have hal := h.below a h.self
  have hkey := keyOf_string_mk Try.underlying9 hn
  have hc0 : ∀ (W : World), W.heap[a]? = w.heap[a]? → W.cell? ⟨a, 1, none⟩ = some (.map mo) := fun W hW => (World.cell?_of_block (a := ⟨a, 1, none⟩) hW).trans h.c1
  have hf0 : ∀ (W : World), W.heap[a]? = w.heap[a]? → W.frozen? ⟨a, 1, none⟩ = false := fun W hW => (World.frozen?_of_block (a := ⟨a, 1, none⟩) hW).trans h.f1
  have hA1 : ∀ o k, k < w.heap.size → (w.alloc o).heap[k]? = w.heap[k]? := fun o k hk => Below.heap_alloc w o k hk
  have hA2 : ∀ o o2 k, k < w.heap.size → ((w.alloc o).alloc o2).heap[k]? = w.heap[k]? := fun o o2 k hk => (Below.heap_alloc _ o2 k (by simp; omega)).trans (hA1 o k hk)
  cases mo with
  | some b =>
    have hown : w.ownsMap Try.prog 9 Rh b fs.length (dmap fs) := h.files
    have hmb : ∃ es clock, w.heap[b]? = some (.map es clock) := by obtain ⟨es, clock, e, _⟩ := hown; exact ⟨es, clock, e⟩
    obtain ⟨es, clock, hmb⟩ := hmb
    have hab : a ≠ b := fun e => by subst e; rw [h.cells] at hmb; cases hmb
    obtain ⟨w2, hrun, hown2, ht⟩ := ((hown.alloc (.cells #[f.sv, .int .i64 (f.safe : Int)] 65)).drew).store law9 Try.underlying59 (by have := h.few; unfold maxLen; omega) hkey hRf
    rw [dmap_put] at hown2
    have hg := ht.grown
    have hblk : ∀ k, k < w.heap.size → k ≠ b → w2.heap[k]? = w.heap[k]? := fun k hk hne => (hg.block k (by simp [size_drew]; omega) (by simpa using hne)).trans (hA1 _ k hk)
    have hsz : w.heap.size ≤ w2.heap.size := Nat.le_trans (by simp [size_drew]) hg.size
    have hbne : ∀ {sv : Value} {bs : List UInt8}, BytesAt w S sv bs → ∀ k, sv.ownBlock = some k → w2.heap[k]? = w.heap[k]? := fun hB k hk => hblk k (hB.lt k hk).2 (fun e => by
      obtain ⟨cur, mk, hh⟩ := hB.block k hk
      rw [e, hmb] at hh; cases hh)
    refine (put_some_walk w w2 a b f.sv f.safe n hsh (fun o => hc0 _ (hA1 o a hal)) hrun).mono ?_
    rintro e w' ⟨rfl, rfl⟩
    refine ⟨rfl, S, some b, ⟨fun k hk => Nat.lt_of_lt_of_le (h.below k hk) hsz, h.self, (hblk a hal hab).trans h.cells, ?_, h.mapS, fun p hp => ?_, apart_fput _ _ h.apart hap, hroom, h.small, hfew⟩, fun k hk => .inl hk, fun k hk => hk, ⟨hg.os, hg.tape, hg.output, hsz, fun k hk hS => hblk k hk (fun e => hS (e ▸ h.mapS b rfl))⟩⟩
    · have := tight hown2
      rw [dmap_size] at this
      exact this
    · rcases (mem_fput _ _ _ _).1 hp with rfl | ⟨hp, _⟩
      · exact ⟨hf.kept (fun _ hk => hk) (hbne hf), hsafe⟩
      · exact ⟨(h.owns p hp).1.kept (fun _ hk => hk) (hbne (h.owns p hp).1), (h.owns p hp).2⟩
  | none =>
    have hfs : fs = [] := h.files
    subst hfs
    have hmade : (((w.setCell ⟨a, 1, none⟩ (.map (some (w.heap.size + 1)))).alloc (.cells #[f.sv, .int .i64 (f.safe : Int)] 65)).alloc (.map #[] 0)).drew.ownsMap Try.prog 9 Rh (w.heap.size + 1) 0 (.map []) := by
      have := World.ownsMap_made ((w.setCell ⟨a, 1, none⟩ (.map (some (w.heap.size + 1)))).alloc (.cells #[f.sv, .int .i64 (f.safe : Int)] 65)) Try.prog 9 Rh
      have e : ((w.setCell ⟨a, 1, none⟩ (.map (some (w.heap.size + 1)))).alloc (.cells #[f.sv, .int .i64 (f.safe : Int)] 65)).heap.size = w.heap.size + 1 := by simp [World.setCell]
      rw [e] at this
      exact this
    obtain ⟨w2, hrun, hown2, ht⟩ := hmade.store law9 Try.underlying59 (by unfold maxLen; omega) hkey hRf
    rw [show (DataW.map [] : DataW Value) = dmap [] from rfl, dmap_put] at hown2
    have hg := ht.grown
    have hS3 : ∀ u : Value, (w.setCell ⟨a, 1, none⟩ u).heap.size = w.heap.size := fun u => by simp [World.setCell]
    have hA3 : ∀ u o o2 k, k < w.heap.size → (((w.setCell ⟨a, 1, none⟩ u).alloc o).alloc o2).heap[k]? = (w.setCell ⟨a, 1, none⟩ u).heap[k]? := fun u o o2 k hk =>
      (Below.heap_alloc _ o2 k (by simp [hS3]; omega)).trans (Below.heap_alloc _ o k (by simp [hS3]; omega))
    have hca : ∀ u : Value, (w.setCell ⟨a, 1, none⟩ u).heap[a]? = some (.cells #[.int .i64 (size : Int), u] 61 (0, 0)) := fun u => by
      simp [World.setCell, Array.getElem?_modify, h.cells]
    have hblk : ∀ k, k < w.heap.size → k ≠ a → w2.heap[k]? = w.heap[k]? := fun k hk hne =>
      (hg.block k (by simp [size_drew, hS3]; omega) (by simp; omega)).trans ((hA3 _ _ _ k hk).trans (Below.heap_setCell w _ _ k hne))
    have hcw : w2.heap[a]? = some (.cells #[.int .i64 (size : Int), .map (some (w.heap.size + 1))] 61 (0, 0)) :=
      (hg.block a (by simp [size_drew, hS3]; omega) (by simp; omega)).trans ((hA3 _ _ _ a hal).trans (hca _))
    have hsz : w.heap.size + 2 ≤ w2.heap.size := Nat.le_trans (by simp [size_drew, hS3]) hg.size
    have hbne : ∀ {sv : Value} {bs : List UInt8}, BytesAt w S sv bs → ∀ k, sv.ownBlock = some k → w2.heap[k]? = w.heap[k]? := fun hB k hk => hblk k (hB.lt k hk).2 (fun e => by
      obtain ⟨cur, mk, hh⟩ := hB.block k hk
      rw [e, h.cells] at hh
      simp only [Option.some.injEq, Obj.cells.injEq] at hh
      exact absurd hh.2.1 (by decide))
    refine (put_none_walk w w2 a f.sv f.safe n hsh (fun o => hc0 _ (hA1 o a hal)) (fun o o2 => hf0 _ (hA2 o o2 a hal)) (fun o o2 => hc0 _ (hA2 o o2 a hal)) hal
      (fun u o o2 => by simp only [World.cell?, hA3 u o o2 a hal, hca u]; rfl) hrun).mono ?_
    rintro e w' ⟨rfl, rfl⟩
    refine ⟨rfl, fun k => S k ∨ k = w.heap.size + 1, some (w.heap.size + 1), ⟨fun k hk => ?_, .inl h.self, hcw, ?_, fun b hb => .inr (by cases hb; rfl), fun p hp => ?_, apart_fput _ _ h.apart hap, hroom, h.small, hfew⟩, fun k hk => ?_, fun k hk => .inl hk, ⟨hg.os, hg.tape, hg.output, by omega, fun k hk hS => hblk k hk (fun e => hS (e ▸ h.self))⟩⟩
    · rcases hk with hk | rfl
      · have := h.below k hk; omega
      · omega
    · have := tight hown2
      rw [dmap_size] at this
      exact this
    · rcases (mem_fput _ _ _ _).1 hp with rfl | ⟨hp, _⟩
      · exact ⟨hf.kept (fun _ hk => .inl hk) (hbne hf), hsafe⟩
      · cases hp
    · rcases hk with hk | rfl
      · exact .inl hk
      · exact .inr (by omega)

end Go.Proofs.Ytjggdecjnnpjaaa

/- The library's contracts on the sorted keys of a map, laid at this program. -/
namespace Go.Proofs
open Go.RowKit Go.Maps Go.Sort Go.Shelf

def Try.keys47_ren : Go.Shelf.Ren := ⟨fun | 7 => 54 | 10 => 64 | n => n, fun | 23 => 59 | 26 => 9 | 3 => 65 | 28 => 97 | 0 => 0 | 27 => 96 | 33 => 39 | 4 => 4 | n => n, fun | n => n⟩
theorem Try.keys47 : Go.Proofs.SlLaysZ.n7 Try.prog Try.keys47_ren := {
  mixed := by kernel_rfl
  f7 := ⟨Try.f54.name, by decide, Try.func54.trans (congrArg some (by kernel_rfl))⟩
  f10 := ⟨Try.f64.name, by decide, Try.func64.trans (congrArg some (by kernel_rfl))⟩
  t0 := Try.underlying0
  a0 := Try.isAgg0
  z0 := Try.sizeOf0
  v0 := Try.zeroValue0
  t4 := Try.underlying4
  a4 := Try.isAgg4
  z4 := Try.sizeOf4
  v4 := Try.zeroValue4
  t23 := Try.underlying59
  a23 := Try.isAgg59
  z23 := Try.sizeOf59
  v23 := Try.zeroValue59
  t26 := Try.underlying9
  a26 := Try.isAgg9
  z26 := Try.sizeOf9
  v26 := Try.zeroValue9
  t27 := Try.underlying96
  a27 := Try.isAgg96
  z27 := Try.sizeOf96
  v27 := Try.zeroValue96
  t28 := Try.underlying97
  a28 := Try.isAgg97
  z28 := Try.sizeOf97
  v28 := Try.zeroValue97
  t33 := Try.underlying39
  a33 := Try.isAgg39
  z33 := Try.sizeOf39
  v33 := Try.zeroValue39 }
def Try.sorted46_ren : Go.Shelf.Ren := ⟨fun | 6 => 53 | 8 => 62 | 9 => 63 | 11 => 68 | 13 => 70 | 12 => 69 | 23 => 81 | 24 => 82 | 14 => 72 | 15 => 73 | 16 => 74 | 17 => 75 | 18 => 76 | 19 => 77 | 20 => 78 | 21 => 79 | 22 => 80 | 25 => 84 | 26 => 85 | 27 => 86 | 28 => 87 | 29 => 88 | 30 => 89 | 31 => 90 | n => n, fun | 26 => 9 | 28 => 97 | 24 => 25 | 0 => 0 | 3 => 3 | 37 => 103 | 48 => 58 | 50 => 102 | 4 => 4 | 40 => 114 | 39 => 113 | 45 => 119 | 5 => 5 | 9 => 9 | 51 => 123 | 55 => 127 | 57 => 129 | 58 => 52 | 33 => 39 | n => n, fun | n => n⟩
theorem Try.sorted46 : Go.Proofs.SlLaysZ.n6 Try.prog Try.sorted46_ren := {
  mixed := by kernel_rfl
  f6 := ⟨Try.f53.name, by decide, Try.func53.trans (congrArg some (by kernel_rfl))⟩
  f8 := ⟨Try.f62.name, by decide, Try.func62.trans (congrArg some (by kernel_rfl))⟩
  f11 := ⟨Try.f68.name, by decide, Try.func68.trans (congrArg some (by kernel_rfl))⟩
  t0 := Try.underlying0
  a0 := Try.isAgg0
  z0 := Try.sizeOf0
  v0 := Try.zeroValue0
  t24 := Try.underlying25
  a24 := Try.isAgg25
  z24 := Try.sizeOf25
  v24 := Try.zeroValue25
  t26 := Try.underlying9
  a26 := Try.isAgg9
  z26 := Try.sizeOf9
  v26 := Try.zeroValue9
  t28 := Try.underlying97
  a28 := Try.isAgg97
  z28 := Try.sizeOf97
  v28 := Try.zeroValue97
  i26 := by kernel_rfl }
def Try.sort55_ren : Go.Shelf.Ren := ⟨fun | 6 => 63 | 8 => 70 | 9 => 69 | 19 => 81 | 20 => 82 | 21 => 72 | 22 => 73 | 23 => 74 | 24 => 75 | 25 => 76 | 26 => 77 | 27 => 78 | 28 => 79 | 29 => 80 | 36 => 84 | 31 => 85 | 32 => 86 | 37 => 87 | 38 => 88 | 39 => 89 | 41 => 90 | n => n, fun | 27 => 25 | 29 => 9 | 3 => 3 | 32 => 103 | 26 => 25 | 0 => 0 | 44 => 58 | 46 => 102 | 4 => 4 | 36 => 114 | 35 => 113 | 41 => 119 | 5 => 5 | 9 => 9 | 53 => 123 | 57 => 127 | 63 => 129 | 64 => 52 | n => n, fun | n => n⟩
theorem Try.sort55 : Go.Proofs.SlLaysM.n6 Try.prog Try.sort55_ren := {
  mixed := by kernel_rfl
  f6 := ⟨Try.f63.name, by decide, Try.func63.trans (congrArg some (by kernel_rfl))⟩
  f8 := Try.func70.trans (congrArg some (by kernel_rfl))
  f9 := ⟨Try.f69.name, by decide, Try.func69.trans (congrArg some (by kernel_rfl))⟩
  f19 := Try.func81.trans (congrArg some (by kernel_rfl))
  f20 := Try.func82.trans (congrArg some (by kernel_rfl))
  f21 := ⟨Try.f72.name, by decide, Try.func72.trans (congrArg some (by kernel_rfl))⟩
  f22 := ⟨Try.f73.name, by decide, Try.func73.trans (congrArg some (by kernel_rfl))⟩
  f23 := ⟨Try.f74.name, by decide, Try.func74.trans (congrArg some (by kernel_rfl))⟩
  f24 := ⟨Try.f75.name, by decide, Try.func75.trans (congrArg some (by kernel_rfl))⟩
  f25 := ⟨Try.f76.name, by decide, Try.func76.trans (congrArg some (by kernel_rfl))⟩
  f26 := ⟨Try.f77.name, by decide, Try.func77.trans (congrArg some (by kernel_rfl))⟩
  f27 := ⟨Try.f78.name, by decide, Try.func78.trans (congrArg some (by kernel_rfl))⟩
  f28 := ⟨Try.f79.name, by decide, Try.func79.trans (congrArg some (by kernel_rfl))⟩
  f29 := ⟨Try.f80.name, by decide, Try.func80.trans (congrArg some (by kernel_rfl))⟩
  f31 := Try.func85.trans (congrArg some (by kernel_rfl))
  f32 := Try.func86.trans (congrArg some (by kernel_rfl))
  f36 := ⟨Try.f84.name, by decide, Try.func84.trans (congrArg some (by kernel_rfl))⟩
  f37 := ⟨Try.f87.name, by decide, Try.func87.trans (congrArg some (by kernel_rfl))⟩
  f38 := ⟨Try.f88.name, by decide, Try.func88.trans (congrArg some (by kernel_rfl))⟩
  f39 := ⟨Try.f89.name, by decide, Try.func89.trans (congrArg some (by kernel_rfl))⟩
  f41 := ⟨Try.f90.name, by decide, Try.func90.trans (congrArg some (by kernel_rfl))⟩
  t0 := Try.underlying0
  a0 := Try.isAgg0
  z0 := Try.sizeOf0
  v0 := Try.zeroValue0
  t3 := Try.underlying3
  a3 := Try.isAgg3
  z3 := Try.sizeOf3
  v3 := Try.zeroValue3
  t4 := Try.underlying4
  a4 := Try.isAgg4
  z4 := Try.sizeOf4
  v4 := Try.zeroValue4
  t5 := Try.underlying5
  a5 := Try.isAgg5
  z5 := Try.sizeOf5
  v5 := Try.zeroValue5
  t9 := Try.underlying9
  a9 := Try.isAgg9
  z9 := Try.sizeOf9
  v9 := Try.zeroValue9
  t26 := Try.underlying25
  a26 := Try.isAgg25
  z26 := Try.sizeOf25
  v26 := Try.zeroValue25
  t27 := Try.underlying25
  a27 := Try.isAgg25
  z27 := Try.sizeOf25
  v27 := Try.zeroValue25
  t29 := Try.underlying9
  a29 := Try.isAgg9
  z29 := Try.sizeOf9
  v29 := Try.zeroValue9
  t32 := Try.underlying103
  a32 := Try.isAgg103
  z32 := Try.sizeOf103
  v32 := Try.zeroValue103
  t35 := Try.underlying113
  a35 := Try.isAgg113
  z35 := Try.sizeOf113
  v35 := Try.zeroValue113
  t36 := Try.underlying114
  a36 := Try.isAgg114
  z36 := Try.sizeOf114
  v36 := Try.zeroValue114
  t41 := Try.underlying119
  a41 := Try.isAgg119
  z41 := Try.sizeOf119
  v41 := Try.zeroValue119
  t44 := Try.underlying58
  a44 := Try.isAgg58
  z44 := Try.sizeOf58
  v44 := Try.zeroValue58
  t46 := Try.underlying102
  a46 := Try.isAgg102
  z46 := Try.sizeOf102
  v46 := Try.zeroValue102
  t53 := Try.underlying123
  a53 := Try.isAgg123
  z53 := Try.sizeOf123
  v53 := Try.zeroValue123
  t57 := Try.underlying127
  a57 := Try.isAgg127
  z57 := Try.sizeOf127
  v57 := Try.zeroValue127
  t63 := Try.underlying129
  a63 := Try.isAgg129
  z63 := Try.sizeOf129
  v63 := Try.zeroValue129
  t64 := Try.underlying52
  a64 := Try.isAgg52
  z64 := Try.sizeOf52
  v64 := Try.zeroValue52 }

theorem Try.sorts46 (m : Nat) : AnyZ.SortsIn Try.prog Try.sorted46_ren Fence.wide m :=
  ⟨fun blk off cap ss W hH hblk hsz => callsIn_wide.2 (AnyM.slices_Sort_string Try.sort55 blk off cap ss W hH hblk hsz),
   fun p cap W => callsIn_wide.2 (AnyM.slices_Sort_string_none Try.sort55 p cap W)⟩

theorem Try.maps_Keys_47 (mb : Option Nat) (W : World) : CallsIn Fence.wide 5 Try.prog 54 #[.map mb] W fun e w' => e = .returned (.func (.func 64) #[] #[.pointer (some ⟨W.heap.size, 0, none⟩)]) ∧ w' = W.alloc (.cells #[.map mb] 59) :=
  AnyZ.keys_in Try.keys47 Fence.wide 5 trivial rfl mb W

set_option maxHeartbeats 1000000 in
theorem Try.slices_Sorted_keys_46_47 {H : Type} (b nn : Nat) (D0 : DataW H) (R : Value → Option (DataW H × List MemPlace)) (w : World) (hown : w.ownsMap Try.prog 9 R b nn D0) (hmax : Maps.size D0 ≤ maxLen) (hbytes : Maps.size D0 * 16 ≤ 140737488355328) :
    CallsIn Fence.wide 5 Try.prog 53 #[.func (.func 64) #[] #[.pointer (some ⟨w.heap.size, 0, none⟩)]] (w.alloc (.cells #[.map (some b)] 59)) fun e w' => ∃ (v : Value) (ss : List (List UInt8)), e = .returned v ∧ ss.Perm (strKeys D0) ∧
      w'.ownsRow (w.alloc (.cells #[.map (some b)] 59)).heap.size 9 1 v ss.length ((ss.mergeSort (fun x y => decide (x ≤ y))).map encStr) ∧ (v = .slice none 0 0 ↔ ss = []) ∧ Below (w.alloc (.cells #[.map (some b)] 59)).heap.size (w.alloc (.cells #[.map (some b)] 59)) w' := by
  have hbl := hown.lt
  have hseq : SeqGives Fence.wide 2 Try.prog 64 #[.pointer (some ⟨w.heap.size, 0, none⟩)] encStr (fun ss => ss.Perm (strKeys D0)) (Maps.size D0) (w.alloc (.cells #[.map (some b)] 59)) :=
    AnyZ.keys_gives (ρ := Try.keys47_ren) { Try.keys47 with } Fence.wide _ trivial rfl (by omega) w.heap.size b nn D0 _ (by simp) (by simp) (by
      obtain ⟨es, clock, hb, Ft, hs, hD⟩ := hown
      exact ⟨es, clock, (Below.heap_alloc _ _ b hbl).trans hb, Ft, hs, hD⟩)
  exact AnyZ.sorted_in Try.sorted46 Fence.wide 5 trivial trivial trivial trivial rfl (by omega) (Try.sorts46 _) (enters_of Try.func63 (by kernel_rfl) rfl) 64 #[.pointer (some ⟨w.heap.size, 0, none⟩)] trivial (enters_of Try.func64 (by kernel_rfl) rfl) _ _ hmax hbytes _ hseq

set_option maxHeartbeats 1000000 in
theorem Try.slices_Sorted_keys_nil_46_47 (w : World) :
    CallsIn Fence.wide 5 Try.prog 53 #[.func (.func 64) #[] #[.pointer (some ⟨w.heap.size, 0, none⟩)]] (w.alloc (.cells #[.map none] 59)) fun e w' => ∃ (v : Value) (ss : List (List UInt8)), e = .returned v ∧ ss = [] ∧
      w'.ownsRow (w.alloc (.cells #[.map none] 59)).heap.size 9 1 v ss.length ((ss.mergeSort (fun x y => decide (x ≤ y))).map encStr) ∧ (v = .slice none 0 0 ↔ ss = []) ∧ Below (w.alloc (.cells #[.map none] 59)).heap.size (w.alloc (.cells #[.map none] 59)) w' := by
  have hseq : SeqGives Fence.wide 2 Try.prog 64 #[.pointer (some ⟨w.heap.size, 0, none⟩)] encStr (fun ss : List (List UInt8) => ss = []) 0 (w.alloc (.cells #[.map none] 59)) :=
    AnyZ.keys_gives_nil (ρ := Try.keys47_ren) { Try.keys47 with } Fence.wide _ trivial rfl w.heap.size _ (by simp) (by simp)
  exact AnyZ.sorted_in Try.sorted46 Fence.wide 5 trivial trivial trivial trivial rfl (by omega) (Try.sorts46 _) (enters_of Try.func63 (by kernel_rfl) rfl) 64 #[.pointer (some ⟨w.heap.size, 0, none⟩)] trivial (enters_of Try.func64 (by kernel_rfl) rfl) _ 0 (Nat.zero_le _) (by omega) _ hseq

end Go.Proofs

/- What Names does: a new slice with the names, rising. -/
namespace Go.Proofs.Ytjggdecjnnpjaaa
open Go.RowKit Go.Maps Go.Sort
set_option maxRecDepth 100000
set_option linter.unusedSimpArgs false

theorem before_le : ∀ (a b : List UInt8), bytesBefore a b = true → a ≤ b
  | [], [], h => by simp [bytesBefore] at h
  | [], y :: s, _ => by simp
  | x :: r, [], h => by simp [bytesBefore] at h
  | x :: r, y :: s, h => by
    simp only [bytesBefore, Bool.or_eq_true, Bool.and_eq_true, decide_eq_true_eq, beq_iff_eq] at h
    rw [List.cons_le_cons_iff]
    rcases h with h | ⟨h1, h2⟩
    · exact .inl h
    · exact .inr ⟨h1, before_le r s h2⟩

theorem DiskM.rising {w : World} {S : Nat → Prop} {a size : Nat} {mo : Option Nat} {fs : List (List UInt8 × FileE)} (h : DiskM w S a size mo fs) : fs.Pairwise (fun p q => bytesBefore p.1 q.1 = true) := by
  cases mo with
  | none => have e : fs = [] := h.files; subst e; exact List.Pairwise.nil
  | some b =>
    have hown : w.ownsMap Try.prog 9 Rh b fs.length (dmap fs) := h.files
    obtain ⟨es, he, hp, _⟩ := hown.canon law9
    have : es = fs.map fun p => (Lit.string p.1, (DataW.held p.2.val : DataW Value)) := by simp only [dmap, DataW.map.injEq] at he; exact he.symm
    subst this
    rw [List.pairwise_map] at hp
    exact hp

theorem strKeys_dmap (fs : List (List UInt8 × FileE)) : strKeys (dmap fs) = fs.map (·.1) := by
  simp [strKeys, dmap, Function.comp_def, Go.strOf]

theorem sorted_names {fs : List (List UInt8 × FileE)} (hr : fs.Pairwise (fun p q => bytesBefore p.1 q.1 = true)) {ss : List (List UInt8)} (hp : ss.Perm (fs.map (·.1))) : ss.mergeSort (fun x y => decide (x ≤ y)) = fs.map (·.1) := by
  have h1 : ss.mergeSort (fun x y => decide (x ≤ y)) = (fs.map (·.1)).mergeSort (fun x y => decide (x ≤ y)) := mergeSort_of_perm hp
  rw [h1]
  refine List.mergeSort_of_pairwise ?_
  rw [List.pairwise_map]
  exact hr.imp (fun h => by simpa using before_le _ _ h)

set_option maxHeartbeats 1000000 in
theorem names_any {w : World} {S : Nat → Prop} {a size : Nat} {mo : Option Nat} {fs : List (List UInt8 × FileE)} (h : DiskM w S a size mo fs) :
    Calls Try.prog 36 #[.pointer (some ⟨a, 0, none⟩)] w fun e w' => ∃ v, e = .returned v ∧ w'.ownsRow w.heap.size 9 1 v fs.length ((fs.map (·.1)).map encStr) ∧ Below w.heap.size w w' := by
  have c1 := h.c1
  have hr := h.rising
  have hfew := h.few
  refine (callsIn_wide (n := 6)).1 ?_
  have hfK : Fence.wide.fn 54 := trivial
  have hfS : Fence.wide.fn 53 := trivial
  cases mo with
  | some b =>
    have hown : w.ownsMap Try.prog 9 Rh b fs.length (dmap fs) := h.files
    have hmax : Maps.size (dmap fs) ≤ maxLen := by rw [dmap_size]; unfold maxLen; omega
    have hbytes : Maps.size (dmap fs) * 16 ≤ 140737488355328 := by rw [dmap_size]; omega
    clear h
    refine callsIn_of_wp Try.func36 rfl trivial ?_ rfl
    simp only [Try.ntmps36, List.size_toArray, List.length_cons, List.length_nil, Nat.reduceAdd, Nat.reduceSub, Array.replicate_succ, Array.replicate_zero, List.push_toArray, List.append_toArray, List.nil_append, List.cons_append]
    gi_wp2_with (first
      | (gi_at_call 54; refine (Try.maps_Keys_47 _ _).mono ?_; rintro e w' ⟨rfl, rfl⟩)
      | (gi_at_call 53; refine (Try.slices_Sorted_keys_46_47 b fs.length (dmap fs) Rh w hown hmax hbytes).mono ?_; rintro e w' ⟨v, ss, rfl, hS, hrow, hnil, hb⟩))
    go_ret
    rw [strKeys_dmap] at hS
    have hl : ss.length = fs.length := by simpa using hS.length_eq
    rw [sorted_names hr hS, hl] at hrow
    exact ⟨v, rfl, ownsRow_base_a hrow (by simp), ((Below.refl _ w).alloc (Nat.le_refl _) _).trans (hb.mono (by simp))⟩
  | none =>
    have e0 : fs = [] := h.files
    subst e0
    clear h
    refine callsIn_of_wp Try.func36 rfl trivial ?_ rfl
    simp only [Try.ntmps36, List.size_toArray, List.length_cons, List.length_nil, Nat.reduceAdd, Nat.reduceSub, Array.replicate_succ, Array.replicate_zero, List.push_toArray, List.append_toArray, List.nil_append, List.cons_append]
    gi_wp2_with (first
      | (gi_at_call 54; refine (Try.maps_Keys_47 _ _).mono ?_; rintro e w' ⟨rfl, rfl⟩)
      | (gi_at_call 53; refine (Try.slices_Sorted_keys_nil_46_47 w).mono ?_; rintro e w' ⟨v, ss, rfl, hS, hrow, hnil, hb⟩))
    go_ret
    subst hS
    have e2 : ([] : List (List UInt8)).mergeSort (fun x y => decide (x ≤ y)) = [] := by simp
    rw [e2] at hrow
    exact ⟨v, rfl, ownsRow_base_a hrow (by simp), ((Below.refl _ w).alloc (Nat.le_refl _) _).trans (hb.mono (by simp))⟩
end Go.Proofs.Ytjggdecjnnpjaaa

