/- What the small functions do: pick, New, the look at a name. -/
import Derived.Test.YtjggdecjnnpjaaaGreatH0
import Derived.Deep.RegionLaw
import Derived.Shelf.SlIter.Nil
import Derived.Shelf.SortM.Plain
import Derived.Shelf.SortM.SortNone
import Derived.Shelf.SlGeneric
import Derived.Ground.GgzProg
import Derived.Ground.SlgmProg
import Derived.Test.YtjggdecjnnpjaaaGreatProg
import Derived.Laws.AppendOwnNone
namespace Go.Proofs.YtjggdecjnnpjaaaGreat
open Go.RowKit Go.Maps


theorem neg_tmod (c n : Int) : (-(c + 1)).tmod n = -((c + 1).tmod n) := by rw [Int.neg_tmod]

def pickI (c n : Int) : Int := if c < 0 then (-(c + 1)) % n else c % n

theorem pickI_range (c n : Int) (hn : 1 ≤ n) : 0 ≤ pickI c n ∧ pickI c n < n := by
  unfold pickI
  split
  · exact ⟨Int.emod_nonneg _ (by omega), Int.emod_lt_of_pos _ (by omega)⟩
  · exact ⟨Int.emod_nonneg _ (by omega), Int.emod_lt_of_pos _ (by omega)⟩

set_option maxHeartbeats 400000 in
theorem new_yes (n : Int) (w : World) (h1 : 1 ≤ n) (h2 : n ≤ 16777216) :
    Calls Tryz.prog 28 #[.int .i64 n] w fun e w' => e = .returned (.tuple #[.pointer (some ⟨w.heap.size, 0, none⟩), .int .i64 0]) ∧ w' = w.alloc (.cells #[.int .i64 n, .map none] 82) := by
  have h3 : ¬ (n < 1) := by omega
  have h4 : ¬ (16777216 < n) := by omega
  go_enter Tryz.func28, Tryz.ntmps28
  go_wp2
  go_ret2
  exact ⟨rfl, rfl⟩

def nameByteB (c : Int) : Bool := decide (97 ≤ c) && decide (c ≤ 122) || decide (48 ≤ c) && decide (c ≤ 57) || c == 45 || c == 46

set_option maxHeartbeats 400000 in
theorem nameByte_any (c : Int) (w : World) (h0 : 0 ≤ c) (h1 : c ≤ 255) :
    Calls Tryz.prog 90 #[.int .u8 c] w fun e w' => e = .returned (.bool (nameByteB c)) ∧ w' = w := by
  go_enter Tryz.func90, Tryz.ntmps90
  go_wp2
  all_goals
    go_ret
    refine ⟨ret_bool ?_, rfl⟩
    rw [Bool.eq_iff_iff]
    simp [nameByteB]
    try omega

def nameB (s : ByteArray) : Bool := decide (1 ≤ s.size) && decide (s.size ≤ 64) && s.data.toList.all fun c => nameByteB (c.toNat : Int)

theorem all_step (s : ByteArray) (k : Nat) (h : k < s.size) : (s.data.toList.take (k + 1)).all (fun c => nameByteB (c.toNat : Int)) = ((s.data.toList.take k).all (fun c => nameByteB (c.toNat : Int)) && nameByteB (s[k].toNat : Int)) := by
  rw [List.take_succ_eq_append_getElem (by simpa using h), List.all_append]
  simp
  rfl

theorem all_end (s : ByteArray) (k : Nat) (h : k < s.size) (hb : nameByteB (s[k].toNat : Int) = false) : (s.data.toList).all (fun c => nameByteB (c.toNat : Int)) = false := by
  have hk : k < s.data.toList.length := by simpa using h
  rw [List.all_eq_false]
  exact ⟨s.data.toList[k], List.getElem_mem hk, by simp; exact hb⟩

set_option maxHeartbeats 800000 in
theorem isName_any (s : ByteArray) (w : World) (hs : s.size ≤ maxLen) :
    Calls Tryz.prog 82 #[.string s] w fun e w' => e = .returned (.bool (nameB s)) ∧ w' = w := by
  unfold maxLen at hs
  by_cases h1 : s.size < 1
  · have h1' : (s.size : Int) < 1 := by omega
    go_enter Tryz.func82, Tryz.ntmps82
    go_wp2
    go_ret
    exact ⟨ret_bool (by have : ¬ 1 ≤ s.size := by omega
                        simp [nameB, this]), rfl⟩
  by_cases h2 : 64 < s.size
  · have h1' : ¬ (s.size : Int) < 1 := by omega
    have h2' : 64 < (s.size : Int) := by omega
    go_enter Tryz.func82, Tryz.ntmps82
    go_wp2
    go_ret
    exact ⟨ret_bool (by have : ¬ s.size ≤ 64 := by omega
                        simp [nameB, this]), rfl⟩
  have h1' : ¬ (s.size : Int) < 1 := by omega
  have h2' : ¬ 64 < (s.size : Int) := by omega
  go_enter Tryz.func82, Tryz.ntmps82
  go_wp2
  go_loop [14] (fun i => ∃ k : Nat, k ≤ s.size ∧ i = .int .i64 k ∧ Hid ((s.data.toList.take k).all (fun c => nameByteB (c.toNat : Int)) = true)) (fun i => s.size - (intOf i).toNat)
  case atStart => exact ⟨0, Nat.zero_le _, rfl, by show _ = true; simp⟩
  case round =>
    obtain ⟨k, hk, rfl, hall⟩ := hrel
    by_cases hlt : k < s.size
    · have hb0 : 0 ≤ (s[k].toNat : Int) := by omega
      have hb1 : (s[k].toNat : Int) ≤ 255 := by have := s[k].toNat_lt; omega
      cases hc : nameByteB (s[k].toNat : Int)
      · have H := all_end s k hlt hc
        have HH : Hid ((s.data.toList).all (fun c => nameByteB (c.toNat : Int)) = false) := H
        clear H
        go_wp2_with (go_at_call 90; refine (nameByte_any _ _ hb0 hb1).mono ?_; rintro e w' ⟨rfl, rfl⟩; rw [hc])
        go_ret
        exact ⟨ret_bool (by simp only [nameB, HH.out, Bool.and_false]), rfl⟩
      · have HH : Hid ((s.data.toList.take (k + 1)).all (fun c => nameByteB (c.toNat : Int)) = true) := by show _ = true; rw [all_step s k hlt, hall.out, hc]; rfl
        go_wp2_with (go_at_call 90; refine (nameByte_any _ _ hb0 hb1).mono ?_; rintro e w' ⟨rfl, rfl⟩; rw [hc])
        go_round
        case rel => exact ⟨k + 1, by omega, by go_num, HH⟩
        case measure => simp [intOf]; omega
    · go_wp2
      go_ret
      have hk' : k = s.size := by omega
      subst hk'
      have h3 := hall.out
      rw [List.take_of_length_le (by simp)] at h3
      exact ⟨ret_bool (by simp only [nameB, h3, Bool.and_true]; have : 1 ≤ s.size ∧ s.size ≤ 64 := by omega
                          simp [this]), rfl⟩
end Go.Proofs.YtjggdecjnnpjaaaGreat

/- What reads and the one store do: Size, Synced, Read, put. -/
namespace Go.Proofs.YtjggdecjnnpjaaaGreat
open Go.RowKit Go.Maps
open Go.WideMaps (keyOf_string_mk)
set_option maxRecDepth 100000

theorem MapAt.kept {w w' : World} {mo : Option Nat} {fs : List (List UInt8 × FileE)} (h : MapAt w mo fs) (hb : ∀ b, mo = some b → w'.heap[b]? = w.heap[b]?) : MapAt w' mo fs := by
  cases mo with
  | none => exact h
  | some b =>
    obtain ⟨es, clock, hm, r⟩ := h
    exact ⟨es, clock, (hb b rfl).trans hm, r⟩

theorem MapAt.lt {w : World} {mo : Option Nat} {fs : List (List UInt8 × FileE)} (h : MapAt w mo fs) : ∀ b, mo = some b → b < w.heap.size := by
  intro b hb
  subst hb
  exact World.ownsMap.lt h

theorem MapAt.look {w : World} {mo : Option Nat} {fs : List (List UInt8 × FileE)} (h : MapAt w mo fs) (n : ByteArray) (hn : n.size ≤ maxLen) :
    (Instr.lookup 80 (.map mo) (.string n) false).run Tryz.prog w = .ok (fval fs n.data.toList) w := by
  have hkey := keyOf_string_mk Tryz.underlying9 hn
  cases mo with
  | none =>
    have e : fs = [] := h
    subst e
    exact Maps.look_nil false law9 Tryz.underlying80 (zero65 w) hkey
  | some b =>
    obtain ⟨v, ps, hrun, hv⟩ := World.ownsMap.lookup h law9 Tryz.underlying80 (zero65 w) (zd := .held zeroF) (zp := []) rfl hkey
    rw [dmap_atKey] at hv
    have hv := (Rh_inv hv).2
    simp only [Prod.mk.injEq, DataW.held.injEq] at hv
    rw [hrun, ← hv.1]

theorem MapAt.look_ok {w : World} {mo : Option Nat} {fs : List (List UInt8 × FileE)} (h : MapAt w mo fs) (n : ByteArray) (hn : n.size ≤ maxLen) :
    (Instr.lookup 80 (.map mo) (.string n) true).run Tryz.prog w = .ok (.tuple #[fval fs n.data.toList, .bool (flook fs n.data.toList).isSome]) w := by
  have hkey := keyOf_string_mk Tryz.underlying9 hn
  cases mo with
  | none =>
    have e : fs = [] := h
    subst e
    exact Maps.look_nil true law9 Tryz.underlying80 (zero65 w) hkey
  | some b =>
    obtain ⟨v, ps, hrun, hv⟩ := World.ownsMap.look_ok h law9 Tryz.underlying80 (zero65 w) (zd := .held zeroF) (zp := []) rfl hkey
    rw [dmap_atKey] at hv
    have hv := (Rh_inv hv).2
    simp only [Prod.mk.injEq, DataW.held.injEq] at hv
    rw [hrun, ← hv.1, dmap_has]

theorem flook_mem {fs : List (List UInt8 × FileE)} {n : List UInt8} {f : FileE} (h : flook fs n = some f) : (n, f) ∈ fs := by
  unfold flook at h
  obtain ⟨p, hp, rfl⟩ := Option.map_eq_some_iff.1 h
  have h1 := List.mem_of_find?_eq_some hp
  have h2 := List.find?_some hp
  simp at h2
  rw [← h2]
  exact h1

def safeAt (fs : List (List UInt8 × FileE)) (n : List UInt8) : Nat := match flook fs n with | some f => f.safe | none => 0
def bsAt (fs : List (List UInt8 × FileE)) (n : List UInt8) : List UInt8 := match flook fs n with | some f => f.bs | none => []

theorem DiskM.at_name {w : World} {S : Nat → Prop} {a size : Nat} {mo : Option Nat} {fs : List (List UInt8 × FileE)} (h : DiskM w S a size mo fs) (n : List UInt8) :
    ∃ oa cap, fval fs n = .agg #[.slice oa (bsAt fs n).length cap, .int .i64 (safeAt fs n : Int)] ∧ BytesAt w S (.slice oa (bsAt fs n).length cap) (bsAt fs n) ∧ safeAt fs n ≤ (bsAt fs n).length ∧ (bsAt fs n).length ≤ 16777216 := by
  unfold fval bsAt safeAt
  cases hf : flook fs n with
  | none => exact ⟨none, 0, rfl, .inl ⟨rfl, rfl⟩, Nat.le_refl _, by simp⟩
  | some f =>
    obtain ⟨hb, hs⟩ := h.owns _ (flook_mem hf)
    obtain ⟨oa, cap, e⟩ := hb.shape
    have ht := total_fdel_le fs n
    unfold lenAt at ht
    rw [hf] at ht
    have := h.room
    have := h.small
    exact ⟨oa, cap, by show Value.agg #[f.sv, _] = _; rw [e], by rw [← e]; exact hb, hs, by simp only at ht ⊢; omega⟩

theorem DiskM.c0 {w : World} {S : Nat → Prop} {a size : Nat} {mo : Option Nat} {fs : List (List UInt8 × FileE)} (h : DiskM w S a size mo fs) : w.cell? ⟨a, 0, none⟩ = some (.int .i64 (size : Int)) := by simp [World.cell?, h.cells]
theorem DiskM.c1 {w : World} {S : Nat → Prop} {a size : Nat} {mo : Option Nat} {fs : List (List UInt8 × FileE)} (h : DiskM w S a size mo fs) : w.cell? ⟨a, 1, none⟩ = some (.map mo) := by simp [World.cell?, h.cells]
theorem DiskM.f1 {w : World} {S : Nat → Prop} {a size : Nat} {mo : Option Nat} {fs : List (List UInt8 × FileE)} (h : DiskM w S a size mo fs) : w.frozen? ⟨a, 1, none⟩ = false := by simp [World.frozen?, h.cells]

theorem fld0 (x y : Value) (w : World) : (Instr.field 79 (.agg #[x, y]) 0).run Tryz.prog w = .ok x w := by kernel_rfl
theorem fld1 (x y : Value) (w : World) : (Instr.field 79 (.agg #[x, y]) 1).run Tryz.prog w = .ok y w := by kernel_rfl

theorem size_any {w : World} {S : Nat → Prop} {a size : Nat} {mo : Option Nat} {fs : List (List UInt8 × FileE)} (h : DiskM w S a size mo fs) (n : ByteArray) (hn : n.size ≤ maxLen) :
    Calls Tryz.prog 27 #[.pointer (some ⟨a, 0, none⟩), .string n] w fun e w' => e = .returned (.int .i64 ((bsAt fs n.data.toList).length : Int)) ∧ w' = w := by
  have c1 := h.c1
  have hl := h.files.look n hn
  obtain ⟨oa, cap, e, _⟩ := h.at_name n.data.toList
  rw [e] at hl
  clear h e
  have hf := fld0
  go_enter Tryz.func27, Tryz.ntmps27
  go_wp2
  go_ret
  exact ⟨rfl, rfl⟩

theorem BytesAt.cell {w : World} {S : Nat → Prop} {g cap : Nat} {bs : List UInt8} (h : BytesAt w S (.slice (some ⟨g, 0, none⟩) bs.length cap) bs) (i : Nat) (hi : i < bs.length) : w.cell? ⟨g, i, none⟩ = some (.int .u8 (bs[i].toNat : Int)) := by
  rcases h with ⟨h, _⟩ | ⟨g', cap', cur, mk, e, _, hh, hc, _, hsz, _, ht⟩
  · cases h
  · cases e
    have h1 : (cur.toList.take bs.length)[i]? = (u8s bs)[i]? := by rw [ht]
    have h2 : (u8s bs)[i]? = some (.int .u8 (bs[i].toNat : Int)) := by simp [u8s, hi]
    rw [h2, List.getElem?_take, if_pos hi] at h1
    simp only [World.cell?, hh]
    simpa using h1

theorem BytesAt.convert {w : World} {S : Nat → Prop} {oa : Option Addr} {cap : Nat} {bs : List UInt8} (h : BytesAt w S (.slice oa bs.length cap) bs) :
    (convert 77 9 (.slice oa bs.length cap)).run Tryz.prog w = .ok (.string (strOf bs)) w := by
  have h' := h
  rcases h with ⟨e, rfl⟩ | ⟨g', cap', cur, mk, e, _, hh, hc, _, hsz, _, ht⟩
  · cases e
    exact run_convert_bytes_nil w 77 5 Tryz.underlying77 Tryz.underlying5 _ _ 9 Tryz.underlying9
  · cases e
    have := run_convert_bytes_arg w 77 5 Tryz.underlying77 Tryz.underlying5 g' 0 bs.length cap (bs.map fun b => (b.toNat : Int)) (by simp) (fun i hi => by
      rw [Nat.zero_add, h'.cell i hi]
      simp [hi]) 9 Tryz.underlying9
    rw [this, strOfNums_u8]

theorem read_yes {w : World} {S : Nat → Prop} {a size : Nat} {mo : Option Nat} {fs : List (List UInt8 × FileE)} (h : DiskM w S a size mo fs) (n : ByteArray) (hn : n.size ≤ maxLen) (hs : (flook fs n.data.toList).isSome = true) :
    Calls Tryz.prog 23 #[.pointer (some ⟨a, 0, none⟩), .string n] w fun e w' => e = .returned (.tuple #[.string (strOf (bsAt fs n.data.toList)), .int .i64 0]) ∧ Below w.heap.size w w' := by
  have c1 := h.c1
  have hl := h.files.look_ok n hn
  obtain ⟨oa, cap, e, hb, _⟩ := h.at_name n.data.toList
  rw [e, hs] at hl
  have hcv : ∀ o, (convert 77 9 (.slice oa (bsAt fs n.data.toList).length cap)).run Tryz.prog (w.alloc o) = .ok (.string (strOf (bsAt fs n.data.toList))) (w.alloc o) := fun o =>
    (hb.kept (fun _ hk => hk) (fun k hk => Below.heap_alloc w o k (hb.lt k hk).2)).convert
  clear h e hs hb
  go_enter Tryz.func23, Tryz.ntmps23
  go_wp2
  go_ret2
  exact ⟨rfl, (Below.refl _ _).alloc (Nat.le_refl _) _⟩

theorem read_no {w : World} {S : Nat → Prop} {a size : Nat} {mo : Option Nat} {fs : List (List UInt8 × FileE)} (h : DiskM w S a size mo fs) (n : ByteArray) (hn : n.size ≤ maxLen) (hs : (flook fs n.data.toList).isSome = false) :
    Calls Tryz.prog 23 #[.pointer (some ⟨a, 0, none⟩), .string n] w fun e w' => e = .returned (.tuple #[.string ByteArray.empty, .int .i64 8]) ∧ Below w.heap.size w w' := by
  have c1 := h.c1
  have hl := h.files.look_ok n hn
  obtain ⟨oa, cap, e, hb, _⟩ := h.at_name n.data.toList
  rw [e, hs] at hl
  clear h e hs hb
  go_enter Tryz.func23, Tryz.ntmps23
  go_wp2
  go_ret2
  exact ⟨rfl, (Below.refl _ _).alloc (Nat.le_refl _) _⟩

end Go.Proofs.YtjggdecjnnpjaaaGreat

/- What put does: the file stands in the map, nothing else is turned. -/
namespace Go.Proofs.YtjggdecjnnpjaaaGreat
open Go.RowKit Go.Maps
open Go.WideMaps (keyOf_string_mk)
set_option maxRecDepth 100000
set_option linter.unusedSimpArgs false

set_option maxHeartbeats 400000 in
theorem put_some_walk (w w2 : World) (a b : Nat) (sv : Value) (safe : Int) (n : ByteArray) (hsv : ∃ oa l c, sv = .slice oa l c)
    (c1 : ∀ o, (w.alloc o).cell? ⟨a, 1, none⟩ = some (.map (some b)))
    (hrun : (Instr.mapUpdate 80 (.map (some b)) (.string n) (.agg #[sv, .int .i64 safe])).run Tryz.prog (w.alloc (.cells #[sv, .int .i64 safe] 79)).drew = .ok () w2) :
    Calls Tryz.prog 42 #[.pointer (some ⟨a, 0, none⟩), .string n, .agg #[sv, .int .i64 safe]] w fun e w' => e = .returned (.tuple #[]) ∧ w' = w2 := by
  obtain ⟨oa, l, c, rfl⟩ := hsv
  have he := fun W r => run_eql_map_nil (P := Tryz.prog) W 80 9 79 r Tryz.underlying80
  go_enter Tryz.func42, Tryz.ntmps42
  go_wp2
  go_region
  go_end0
  exact ⟨rfl, rfl⟩

set_option maxHeartbeats 400000 in
theorem put_none_walk (w w2 : World) (a : Nat) (sv : Value) (safe : Int) (n : ByteArray) (hsv : ∃ oa l c, sv = .slice oa l c)
    (c1 : ∀ o, (w.alloc o).cell? ⟨a, 1, none⟩ = some (.map none)) (f1 : ∀ o o2, ((w.alloc o).alloc o2).frozen? ⟨a, 1, none⟩ = false)
    (c2 : ∀ o o2, ((w.alloc o).alloc o2).cell? ⟨a, 1, none⟩ = some (.map none)) (ha : a < w.heap.size)
    (c3 : ∀ u o o2, (((w.setCell ⟨a, 1, none⟩ u).alloc o).alloc o2).cell? ⟨a, 1, none⟩ = some u)
    (hrun : (Instr.mapUpdate 80 (.map (some (w.heap.size + 1))) (.string n) (.agg #[sv, .int .i64 safe])).run Tryz.prog (((w.setCell ⟨a, 1, none⟩ (.map (some (w.heap.size + 1)))).alloc (.cells #[sv, .int .i64 safe] 79)).alloc (.map #[] 0)).drew = .ok () w2) :
    Calls Tryz.prog 42 #[.pointer (some ⟨a, 0, none⟩), .string n, .agg #[sv, .int .i64 safe]] w fun e w' => e = .returned (.tuple #[]) ∧ w' = w2 := by
  obtain ⟨oa, l, c, rfl⟩ := hsv
  have he := fun W r => run_eql_map_nil (P := Tryz.prog) W 80 9 79 r Tryz.underlying80
  have hmm := @run_makeMap Tryz.prog
  go_enter Tryz.func42, Tryz.ntmps42
  go_wp2
  go_region
  go_end0
  exact ⟨rfl, rfl⟩

theorem tight {w : World} {b m : Nat} {D : DataW Value} (h : w.ownsMap Tryz.prog 9 Rh b m D) : w.ownsMap Tryz.prog 9 Rh b (Maps.size D) D := by
  obtain ⟨es, clock, hm, F, hs, rfl⟩ := h
  exact ⟨es, clock, hm, F, by simp [Maps.size, length_sorted], rfl⟩

theorem BytesAt.block {w : World} {S : Nat → Prop} {sv : Value} {bs : List UInt8} (h : BytesAt w S sv bs) : ∀ k, sv.ownBlock = some k → ∃ cur mk, w.heap[k]? = some (.cells cur 5 mk) := by
  intro k hk
  rcases h with ⟨rfl, rfl⟩ | ⟨g, cap, cur, mk, rfl, hg, hh, _⟩
  · simp [Value.ownBlock] at hk
  · simp [Value.ownBlock] at hk
    subst hk
    exact ⟨cur, mk, hh⟩

theorem heap_drew (w : World) (k : Nat) : w.drew.heap[k]? = w.heap[k]? := rfl
theorem size_drew (w : World) : w.drew.heap.size = w.heap.size := rfl

theorem apart_fput {fs : List (List UInt8 × FileE)} (n : List UInt8) (f : FileE) (hA : fs.Pairwise (fun p q => ∀ k, p.2.sv.ownBlock = some k → q.2.sv.ownBlock ≠ some k))
    (hap : ∀ p ∈ fs, p.1 ≠ n → ∀ k, f.sv.ownBlock = some k → p.2.sv.ownBlock ≠ some k) : (fput fs n f).Pairwise (fun p q => ∀ k, p.2.sv.ownBlock = some k → q.2.sv.ownBlock ≠ some k) := by
  refine pair_fins (n, f) _ (fun p q h k hk hq => h k hq hk) _ (List.Pairwise.filter _ hA) (fun p hp => ?_)
  have h2 := List.mem_filter.1 hp
  exact hap p h2.1 (by simpa using h2.2)

/-- put, whatever the disk: its map holds the file under its name. -/
theorem put_any {w : World} {S : Nat → Prop} {a size : Nat} {mo : Option Nat} {fs : List (List UInt8 × FileE)} (h : DiskM w S a size mo fs) (n : ByteArray) (hn : n.size ≤ maxLen) (f : FileE)
    (hf : BytesAt w S f.sv f.bs) (hsafe : f.safe ≤ f.bs.length) (hap : ∀ p ∈ fs, p.1 ≠ n.data.toList → ∀ k, f.sv.ownBlock = some k → p.2.sv.ownBlock ≠ some k)
    (hroom : total (fput fs n.data.toList f) ≤ size) (hfew : (fput fs n.data.toList f).length ≤ 256) :
    Calls Tryz.prog 42 #[.pointer (some ⟨a, 0, none⟩), .string n, f.val] w fun e w' => e = .returned (.tuple #[]) ∧ ∃ S' mo', DiskM w' S' a size mo' (fput fs n.data.toList f) ∧ (∀ k, S' k → S k ∨ w.heap.size ≤ k) ∧ (∀ k, S k → S' k) ∧ Keeps S w w' := by
  have hsh : ∃ oa l c, f.sv = .slice oa l c := by obtain ⟨oa, c, e⟩ := hf.shape; exact ⟨oa, _, c, e⟩
  have hRf : Rh f.val = some (.held f.val, []) := by obtain ⟨oa, l, c, e⟩ := hsh; unfold FileE.val; rw [e]; exact Rh_mk _ _ _ _
  have hal := h.below a h.self
  have hkey := keyOf_string_mk Tryz.underlying9 hn
  have hc0 : ∀ (W : World), W.heap[a]? = w.heap[a]? → W.cell? ⟨a, 1, none⟩ = some (.map mo) := fun W hW => (World.cell?_of_block (a := ⟨a, 1, none⟩) hW).trans h.c1
  have hf0 : ∀ (W : World), W.heap[a]? = w.heap[a]? → W.frozen? ⟨a, 1, none⟩ = false := fun W hW => (World.frozen?_of_block (a := ⟨a, 1, none⟩) hW).trans h.f1
  have hA1 : ∀ o k, k < w.heap.size → (w.alloc o).heap[k]? = w.heap[k]? := fun o k hk => Below.heap_alloc w o k hk
  have hA2 : ∀ o o2 k, k < w.heap.size → ((w.alloc o).alloc o2).heap[k]? = w.heap[k]? := fun o o2 k hk => (Below.heap_alloc _ o2 k (by simp; omega)).trans (hA1 o k hk)
  cases mo with
  | some b =>
    have hown : w.ownsMap Tryz.prog 9 Rh b fs.length (dmap fs) := h.files
    have hmb : ∃ es clock, w.heap[b]? = some (.map es clock) := by obtain ⟨es, clock, e, _⟩ := hown; exact ⟨es, clock, e⟩
    obtain ⟨es, clock, hmb⟩ := hmb
    have hab : a ≠ b := fun e => by subst e; rw [h.cells] at hmb; cases hmb
    obtain ⟨w2, hrun, hown2, ht⟩ := ((hown.alloc (.cells #[f.sv, .int .i64 (f.safe : Int)] 79)).drew).store law9 Tryz.underlying80 (by have := h.few; unfold maxLen; omega) hkey hRf
    rw [dmap_put] at hown2
    have hg := ht.grown
    have hblk : ∀ k, k < w.heap.size → k ≠ b → w2.heap[k]? = w.heap[k]? := fun k hk hne => (hg.block k (by simp [size_drew]; omega) (by simpa using hne)).trans (hA1 _ k hk)
    have hsz : w.heap.size ≤ w2.heap.size := Nat.le_trans (by simp [size_drew]) hg.size
    have hbne : ∀ {sv : Value} {bs : List UInt8}, BytesAt w S sv bs → ∀ k, sv.ownBlock = some k → w2.heap[k]? = w.heap[k]? := fun hB k hk => hblk k (hB.lt k hk).2 (fun e => by
      obtain ⟨cur, mk, hh⟩ := hB.block k hk
      rw [e, hmb] at hh; cases hh)
    refine (put_some_walk w w2 a b f.sv f.safe n hsh (fun o => hc0 _ (hA1 o a hal)) hrun).mono ?_
    rintro e w' ⟨rfl, rfl⟩
    refine ⟨rfl, S, some b, ⟨fun k hk => Nat.lt_of_lt_of_le (h.below k hk) hsz, h.self, (hblk a hal hab).trans h.cells, ?_, h.mapS, fun p hp => ?_, apart_fput _ _ h.apart hap, hroom, h.small, hfew⟩, fun k hk => .inl hk, fun k hk => hk, ⟨hg.os, hg.tape, hg.output, hsz, fun k hk hS => hblk k hk (fun e => hS (e ▸ h.mapS b rfl))⟩⟩
    · have := tight hown2
      rw [dmap_size] at this
      exact this
    · rcases (mem_fput _ _ _ _).1 hp with rfl | ⟨hp, _⟩
      · exact ⟨hf.kept (fun _ hk => hk) (hbne hf), hsafe⟩
      · exact ⟨(h.owns p hp).1.kept (fun _ hk => hk) (hbne (h.owns p hp).1), (h.owns p hp).2⟩
  | none =>
    have hfs : fs = [] := h.files
    subst hfs
    have hmade : (((w.setCell ⟨a, 1, none⟩ (.map (some (w.heap.size + 1)))).alloc (.cells #[f.sv, .int .i64 (f.safe : Int)] 79)).alloc (.map #[] 0)).drew.ownsMap Tryz.prog 9 Rh (w.heap.size + 1) 0 (.map []) := by
      have := World.ownsMap_made ((w.setCell ⟨a, 1, none⟩ (.map (some (w.heap.size + 1)))).alloc (.cells #[f.sv, .int .i64 (f.safe : Int)] 79)) Tryz.prog 9 Rh
      have e : ((w.setCell ⟨a, 1, none⟩ (.map (some (w.heap.size + 1)))).alloc (.cells #[f.sv, .int .i64 (f.safe : Int)] 79)).heap.size = w.heap.size + 1 := by simp [World.setCell]
      rw [e] at this
      exact this
    obtain ⟨w2, hrun, hown2, ht⟩ := hmade.store law9 Tryz.underlying80 (by unfold maxLen; omega) hkey hRf
    rw [show (DataW.map [] : DataW Value) = dmap [] from rfl, dmap_put] at hown2
    have hg := ht.grown
    have hS3 : ∀ u : Value, (w.setCell ⟨a, 1, none⟩ u).heap.size = w.heap.size := fun u => by simp [World.setCell]
    have hA3 : ∀ u o o2 k, k < w.heap.size → (((w.setCell ⟨a, 1, none⟩ u).alloc o).alloc o2).heap[k]? = (w.setCell ⟨a, 1, none⟩ u).heap[k]? := fun u o o2 k hk =>
      (Below.heap_alloc _ o2 k (by simp [hS3]; omega)).trans (Below.heap_alloc _ o k (by simp [hS3]; omega))
    have hca : ∀ u : Value, (w.setCell ⟨a, 1, none⟩ u).heap[a]? = some (.cells #[.int .i64 (size : Int), u] 82 (0, 0)) := fun u => by
      simp [World.setCell, Array.getElem?_modify, h.cells]
    have hblk : ∀ k, k < w.heap.size → k ≠ a → w2.heap[k]? = w.heap[k]? := fun k hk hne =>
      (hg.block k (by simp [size_drew, hS3]; omega) (by simp; omega)).trans ((hA3 _ _ _ k hk).trans (Below.heap_setCell w _ _ k hne))
    have hcw : w2.heap[a]? = some (.cells #[.int .i64 (size : Int), .map (some (w.heap.size + 1))] 82 (0, 0)) :=
      (hg.block a (by simp [size_drew, hS3]; omega) (by simp; omega)).trans ((hA3 _ _ _ a hal).trans (hca _))
    have hsz : w.heap.size + 2 ≤ w2.heap.size := Nat.le_trans (by simp [size_drew, hS3]) hg.size
    have hbne : ∀ {sv : Value} {bs : List UInt8}, BytesAt w S sv bs → ∀ k, sv.ownBlock = some k → w2.heap[k]? = w.heap[k]? := fun hB k hk => hblk k (hB.lt k hk).2 (fun e => by
      obtain ⟨cur, mk, hh⟩ := hB.block k hk
      rw [e, h.cells] at hh
      simp only [Option.some.injEq, Obj.cells.injEq] at hh
      exact absurd hh.2.1 (by decide))
    refine (put_none_walk w w2 a f.sv f.safe n hsh (fun o => hc0 _ (hA1 o a hal)) (fun o o2 => hf0 _ (hA2 o o2 a hal)) (fun o o2 => hc0 _ (hA2 o o2 a hal)) hal
      (fun u o o2 => by simp only [World.cell?, hA3 u o o2 a hal, hca u]; rfl) hrun).mono ?_
    rintro e w' ⟨rfl, rfl⟩
    refine ⟨rfl, fun k => S k ∨ k = w.heap.size + 1, some (w.heap.size + 1), ⟨fun k hk => ?_, .inl h.self, hcw, ?_, fun b hb => .inr (by cases hb; rfl), fun p hp => ?_, apart_fput _ _ h.apart hap, hroom, h.small, hfew⟩, fun k hk => ?_, fun k hk => .inl hk, ⟨hg.os, hg.tape, hg.output, by omega, fun k hk hS => hblk k hk (fun e => hS (e ▸ h.self))⟩⟩
    · rcases hk with hk | rfl
      · have := h.below k hk; omega
      · omega
    · have := tight hown2
      rw [dmap_size] at this
      exact this
    · rcases (mem_fput _ _ _ _).1 hp with rfl | ⟨hp, _⟩
      · exact ⟨hf.kept (fun _ hk => .inl hk) (hbne hf), hsafe⟩
      · cases hp
    · rcases hk with hk | rfl
      · exact .inl hk
      · exact .inr (by omega)

end Go.Proofs.YtjggdecjnnpjaaaGreat

/- The library's contracts on the sorted keys of a map, laid at this program. -/
namespace Go.Proofs
open Go.RowKit Go.Maps Go.Sort Go.Shelf

def Tryz.keys47_ren : Go.Shelf.Ren := ⟨fun | 7 => 58 | 10 => 77 | n => n, fun | 23 => 80 | 26 => 9 | 3 => 79 | 28 => 103 | 0 => 0 | 27 => 102 | 33 => 119 | 4 => 4 | n => n, fun | n => n⟩
theorem Tryz.keys47 : Go.Proofs.SlLaysZ.n7 Tryz.prog Tryz.keys47_ren := {
  mixed := by kernel_rfl
  f7 := ⟨Tryz.f58.name, by decide, Tryz.func58.trans (congrArg some (by kernel_rfl))⟩
  f10 := ⟨Tryz.f77.name, by decide, Tryz.func77.trans (congrArg some (by kernel_rfl))⟩
  t0 := Tryz.underlying0
  a0 := Tryz.isAgg0
  z0 := Tryz.sizeOf0
  v0 := Tryz.zeroValue0
  t4 := Tryz.underlying4
  a4 := Tryz.isAgg4
  z4 := Tryz.sizeOf4
  v4 := Tryz.zeroValue4
  t23 := Tryz.underlying80
  a23 := Tryz.isAgg80
  z23 := Tryz.sizeOf80
  v23 := Tryz.zeroValue80
  t26 := Tryz.underlying9
  a26 := Tryz.isAgg9
  z26 := Tryz.sizeOf9
  v26 := Tryz.zeroValue9
  t27 := Tryz.underlying102
  a27 := Tryz.isAgg102
  z27 := Tryz.sizeOf102
  v27 := Tryz.zeroValue102
  t28 := Tryz.underlying103
  a28 := Tryz.isAgg103
  z28 := Tryz.sizeOf103
  v28 := Tryz.zeroValue103
  t33 := Tryz.underlying119
  a33 := Tryz.isAgg119
  z33 := Tryz.sizeOf119
  v33 := Tryz.zeroValue119 }
def Tryz.sorted46_ren : Go.Shelf.Ren := ⟨fun | 6 => 57 | 8 => 75 | 9 => 76 | 11 => 86 | 13 => 88 | 12 => 87 | 23 => 101 | 24 => 102 | 14 => 92 | 15 => 93 | 16 => 94 | 17 => 95 | 18 => 96 | 19 => 97 | 20 => 98 | 21 => 99 | 22 => 100 | 25 => 104 | 26 => 105 | 27 => 106 | 28 => 107 | 29 => 108 | 30 => 109 | 31 => 110 | n => n, fun | 26 => 9 | 28 => 103 | 24 => 75 | 0 => 0 | 3 => 3 | 37 => 112 | 48 => 109 | 50 => 122 | 4 => 4 | 40 => 131 | 39 => 130 | 45 => 136 | 5 => 5 | 9 => 9 | 51 => 140 | 55 => 144 | 57 => 146 | 58 => 39 | 33 => 119 | n => n, fun | n => n⟩
theorem Tryz.sorted46 : Go.Proofs.SlLaysZ.n6 Tryz.prog Tryz.sorted46_ren := {
  mixed := by kernel_rfl
  f6 := ⟨Tryz.f57.name, by decide, Tryz.func57.trans (congrArg some (by kernel_rfl))⟩
  f8 := ⟨Tryz.f75.name, by decide, Tryz.func75.trans (congrArg some (by kernel_rfl))⟩
  f11 := ⟨Tryz.f86.name, by decide, Tryz.func86.trans (congrArg some (by kernel_rfl))⟩
  t0 := Tryz.underlying0
  a0 := Tryz.isAgg0
  z0 := Tryz.sizeOf0
  v0 := Tryz.zeroValue0
  t24 := Tryz.underlying75
  a24 := Tryz.isAgg75
  z24 := Tryz.sizeOf75
  v24 := Tryz.zeroValue75
  t26 := Tryz.underlying9
  a26 := Tryz.isAgg9
  z26 := Tryz.sizeOf9
  v26 := Tryz.zeroValue9
  t28 := Tryz.underlying103
  a28 := Tryz.isAgg103
  z28 := Tryz.sizeOf103
  v28 := Tryz.zeroValue103
  i26 := by kernel_rfl }
def Tryz.sort55_ren : Go.Shelf.Ren := ⟨fun | 6 => 76 | 8 => 88 | 9 => 87 | 19 => 101 | 20 => 102 | 21 => 92 | 22 => 93 | 23 => 94 | 24 => 95 | 25 => 96 | 26 => 97 | 27 => 98 | 28 => 99 | 29 => 100 | 36 => 104 | 31 => 105 | 32 => 106 | 37 => 107 | 38 => 108 | 39 => 109 | 41 => 110 | n => n, fun | 27 => 75 | 29 => 9 | 3 => 3 | 32 => 112 | 26 => 75 | 0 => 0 | 44 => 109 | 46 => 122 | 4 => 4 | 36 => 131 | 35 => 130 | 41 => 136 | 5 => 5 | 9 => 9 | 53 => 140 | 57 => 144 | 63 => 146 | 64 => 39 | n => n, fun | n => n⟩
theorem Tryz.sort55 : Go.Proofs.SlLaysM.n6 Tryz.prog Tryz.sort55_ren := {
  mixed := by kernel_rfl
  f6 := ⟨Tryz.f76.name, by decide, Tryz.func76.trans (congrArg some (by kernel_rfl))⟩
  f8 := Tryz.func88.trans (congrArg some (by kernel_rfl))
  f9 := ⟨Tryz.f87.name, by decide, Tryz.func87.trans (congrArg some (by kernel_rfl))⟩
  f19 := Tryz.func101.trans (congrArg some (by kernel_rfl))
  f20 := Tryz.func102.trans (congrArg some (by kernel_rfl))
  f21 := ⟨Tryz.f92.name, by decide, Tryz.func92.trans (congrArg some (by kernel_rfl))⟩
  f22 := ⟨Tryz.f93.name, by decide, Tryz.func93.trans (congrArg some (by kernel_rfl))⟩
  f23 := ⟨Tryz.f94.name, by decide, Tryz.func94.trans (congrArg some (by kernel_rfl))⟩
  f24 := ⟨Tryz.f95.name, by decide, Tryz.func95.trans (congrArg some (by kernel_rfl))⟩
  f25 := ⟨Tryz.f96.name, by decide, Tryz.func96.trans (congrArg some (by kernel_rfl))⟩
  f26 := ⟨Tryz.f97.name, by decide, Tryz.func97.trans (congrArg some (by kernel_rfl))⟩
  f27 := ⟨Tryz.f98.name, by decide, Tryz.func98.trans (congrArg some (by kernel_rfl))⟩
  f28 := ⟨Tryz.f99.name, by decide, Tryz.func99.trans (congrArg some (by kernel_rfl))⟩
  f29 := ⟨Tryz.f100.name, by decide, Tryz.func100.trans (congrArg some (by kernel_rfl))⟩
  f31 := Tryz.func105.trans (congrArg some (by kernel_rfl))
  f32 := Tryz.func106.trans (congrArg some (by kernel_rfl))
  f36 := ⟨Tryz.f104.name, by decide, Tryz.func104.trans (congrArg some (by kernel_rfl))⟩
  f37 := ⟨Tryz.f107.name, by decide, Tryz.func107.trans (congrArg some (by kernel_rfl))⟩
  f38 := ⟨Tryz.f108.name, by decide, Tryz.func108.trans (congrArg some (by kernel_rfl))⟩
  f39 := ⟨Tryz.f109.name, by decide, Tryz.func109.trans (congrArg some (by kernel_rfl))⟩
  f41 := ⟨Tryz.f110.name, by decide, Tryz.func110.trans (congrArg some (by kernel_rfl))⟩
  t0 := Tryz.underlying0
  a0 := Tryz.isAgg0
  z0 := Tryz.sizeOf0
  v0 := Tryz.zeroValue0
  t3 := Tryz.underlying3
  a3 := Tryz.isAgg3
  z3 := Tryz.sizeOf3
  v3 := Tryz.zeroValue3
  t4 := Tryz.underlying4
  a4 := Tryz.isAgg4
  z4 := Tryz.sizeOf4
  v4 := Tryz.zeroValue4
  t5 := Tryz.underlying5
  a5 := Tryz.isAgg5
  z5 := Tryz.sizeOf5
  v5 := Tryz.zeroValue5
  t9 := Tryz.underlying9
  a9 := Tryz.isAgg9
  z9 := Tryz.sizeOf9
  v9 := Tryz.zeroValue9
  t26 := Tryz.underlying75
  a26 := Tryz.isAgg75
  z26 := Tryz.sizeOf75
  v26 := Tryz.zeroValue75
  t27 := Tryz.underlying75
  a27 := Tryz.isAgg75
  z27 := Tryz.sizeOf75
  v27 := Tryz.zeroValue75
  t29 := Tryz.underlying9
  a29 := Tryz.isAgg9
  z29 := Tryz.sizeOf9
  v29 := Tryz.zeroValue9
  t32 := Tryz.underlying112
  a32 := Tryz.isAgg112
  z32 := Tryz.sizeOf112
  v32 := Tryz.zeroValue112
  t35 := Tryz.underlying130
  a35 := Tryz.isAgg130
  z35 := Tryz.sizeOf130
  v35 := Tryz.zeroValue130
  t36 := Tryz.underlying131
  a36 := Tryz.isAgg131
  z36 := Tryz.sizeOf131
  v36 := Tryz.zeroValue131
  t41 := Tryz.underlying136
  a41 := Tryz.isAgg136
  z41 := Tryz.sizeOf136
  v41 := Tryz.zeroValue136
  t44 := Tryz.underlying109
  a44 := Tryz.isAgg109
  z44 := Tryz.sizeOf109
  v44 := Tryz.zeroValue109
  t46 := Tryz.underlying122
  a46 := Tryz.isAgg122
  z46 := Tryz.sizeOf122
  v46 := Tryz.zeroValue122
  t53 := Tryz.underlying140
  a53 := Tryz.isAgg140
  z53 := Tryz.sizeOf140
  v53 := Tryz.zeroValue140
  t57 := Tryz.underlying144
  a57 := Tryz.isAgg144
  z57 := Tryz.sizeOf144
  v57 := Tryz.zeroValue144
  t63 := Tryz.underlying146
  a63 := Tryz.isAgg146
  z63 := Tryz.sizeOf146
  v63 := Tryz.zeroValue146
  t64 := Tryz.underlying39
  a64 := Tryz.isAgg39
  z64 := Tryz.sizeOf39
  v64 := Tryz.zeroValue39 }

theorem Tryz.sorts46 (m : Nat) : AnyZ.SortsIn Tryz.prog Tryz.sorted46_ren Fence.wide m :=
  ⟨fun blk off cap ss W hH hblk hsz => callsIn_wide.2 (AnyM.slices_Sort_string Tryz.sort55 blk off cap ss W hH hblk hsz),
   fun p cap W => callsIn_wide.2 (AnyM.slices_Sort_string_none Tryz.sort55 p cap W)⟩

theorem Tryz.maps_Keys_47 (mb : Option Nat) (W : World) : CallsIn Fence.wide 5 Tryz.prog 58 #[.map mb] W fun e w' => e = .returned (.func (.func 77) #[] #[.pointer (some ⟨W.heap.size, 0, none⟩)]) ∧ w' = W.alloc (.cells #[.map mb] 80) :=
  AnyZ.keys_in Tryz.keys47 Fence.wide 5 trivial rfl mb W

set_option maxHeartbeats 1000000 in
theorem Tryz.slices_Sorted_keys_46_47 {H : Type} (b nn : Nat) (D0 : DataW H) (R : Value → Option (DataW H × List MemPlace)) (w : World) (hown : w.ownsMap Tryz.prog 9 R b nn D0) (hmax : Maps.size D0 ≤ maxLen) (hbytes : Maps.size D0 * 16 ≤ 140737488355328) :
    CallsIn Fence.wide 5 Tryz.prog 57 #[.func (.func 77) #[] #[.pointer (some ⟨w.heap.size, 0, none⟩)]] (w.alloc (.cells #[.map (some b)] 80)) fun e w' => ∃ (v : Value) (ss : List (List UInt8)), e = .returned v ∧ ss.Perm (strKeys D0) ∧
      w'.ownsRow (w.alloc (.cells #[.map (some b)] 80)).heap.size 9 1 v ss.length ((ss.mergeSort (fun x y => decide (x ≤ y))).map encStr) ∧ (v = .slice none 0 0 ↔ ss = []) ∧ Below (w.alloc (.cells #[.map (some b)] 80)).heap.size (w.alloc (.cells #[.map (some b)] 80)) w' := by
  have hbl := hown.lt
  have hseq : SeqGives Fence.wide 2 Tryz.prog 77 #[.pointer (some ⟨w.heap.size, 0, none⟩)] encStr (fun ss => ss.Perm (strKeys D0)) (Maps.size D0) (w.alloc (.cells #[.map (some b)] 80)) :=
    AnyZ.keys_gives (ρ := Tryz.keys47_ren) { Tryz.keys47 with } Fence.wide _ trivial rfl (by omega) w.heap.size b nn D0 _ (by simp) (by simp) (by
      obtain ⟨es, clock, hb, Ft, hs, hD⟩ := hown
      exact ⟨es, clock, (Below.heap_alloc _ _ b hbl).trans hb, Ft, hs, hD⟩)
  exact AnyZ.sorted_in Tryz.sorted46 Fence.wide 5 trivial trivial trivial trivial rfl (by omega) (Tryz.sorts46 _) (enters_of Tryz.func76 (by kernel_rfl) rfl) 77 #[.pointer (some ⟨w.heap.size, 0, none⟩)] trivial (enters_of Tryz.func77 (by kernel_rfl) rfl) _ _ hmax hbytes _ hseq

set_option maxHeartbeats 1000000 in
theorem Tryz.slices_Sorted_keys_nil_46_47 (w : World) :
    CallsIn Fence.wide 5 Tryz.prog 57 #[.func (.func 77) #[] #[.pointer (some ⟨w.heap.size, 0, none⟩)]] (w.alloc (.cells #[.map none] 80)) fun e w' => ∃ (v : Value) (ss : List (List UInt8)), e = .returned v ∧ ss = [] ∧
      w'.ownsRow (w.alloc (.cells #[.map none] 80)).heap.size 9 1 v ss.length ((ss.mergeSort (fun x y => decide (x ≤ y))).map encStr) ∧ (v = .slice none 0 0 ↔ ss = []) ∧ Below (w.alloc (.cells #[.map none] 80)).heap.size (w.alloc (.cells #[.map none] 80)) w' := by
  have hseq : SeqGives Fence.wide 2 Tryz.prog 77 #[.pointer (some ⟨w.heap.size, 0, none⟩)] encStr (fun ss : List (List UInt8) => ss = []) 0 (w.alloc (.cells #[.map none] 80)) :=
    AnyZ.keys_gives_nil (ρ := Tryz.keys47_ren) { Tryz.keys47 with } Fence.wide _ trivial rfl w.heap.size _ (by simp) (by simp)
  exact AnyZ.sorted_in Tryz.sorted46 Fence.wide 5 trivial trivial trivial trivial rfl (by omega) (Tryz.sorts46 _) (enters_of Tryz.func76 (by kernel_rfl) rfl) 77 #[.pointer (some ⟨w.heap.size, 0, none⟩)] trivial (enters_of Tryz.func77 (by kernel_rfl) rfl) _ 0 (Nat.zero_le _) (by omega) _ hseq

end Go.Proofs

/- What Names does: a new slice with the names, rising. -/
namespace Go.Proofs.YtjggdecjnnpjaaaGreat
open Go.RowKit Go.Maps Go.Sort
set_option maxRecDepth 100000
set_option linter.unusedSimpArgs false

theorem before_le : ∀ (a b : List UInt8), bytesBefore a b = true → a ≤ b
  | [], [], h => by simp [bytesBefore] at h
  | [], y :: s, _ => by simp
  | x :: r, [], h => by simp [bytesBefore] at h
  | x :: r, y :: s, h => by
    simp only [bytesBefore, Bool.or_eq_true, Bool.and_eq_true, decide_eq_true_eq, beq_iff_eq] at h
    rw [List.cons_le_cons_iff]
    rcases h with h | ⟨h1, h2⟩
    · exact .inl h
    · exact .inr ⟨h1, before_le r s h2⟩

theorem DiskM.rising {w : World} {S : Nat → Prop} {a size : Nat} {mo : Option Nat} {fs : List (List UInt8 × FileE)} (h : DiskM w S a size mo fs) : fs.Pairwise (fun p q => bytesBefore p.1 q.1 = true) := by
  cases mo with
  | none => have e : fs = [] := h.files; subst e; exact List.Pairwise.nil
  | some b =>
    have hown : w.ownsMap Tryz.prog 9 Rh b fs.length (dmap fs) := h.files
    obtain ⟨es, he, hp, _⟩ := hown.canon law9
    have : es = fs.map fun p => (Lit.string p.1, (DataW.held p.2.val : DataW Value)) := by simp only [dmap, DataW.map.injEq] at he; exact he.symm
    subst this
    rw [List.pairwise_map] at hp
    exact hp

theorem strKeys_dmap (fs : List (List UInt8 × FileE)) : strKeys (dmap fs) = fs.map (·.1) := by
  simp [strKeys, dmap, Function.comp_def, Go.strOf]

theorem sorted_names {fs : List (List UInt8 × FileE)} (hr : fs.Pairwise (fun p q => bytesBefore p.1 q.1 = true)) {ss : List (List UInt8)} (hp : ss.Perm (fs.map (·.1))) : ss.mergeSort (fun x y => decide (x ≤ y)) = fs.map (·.1) := by
  have h1 : ss.mergeSort (fun x y => decide (x ≤ y)) = (fs.map (·.1)).mergeSort (fun x y => decide (x ≤ y)) := mergeSort_of_perm hp
  rw [h1]
  refine List.mergeSort_of_pairwise ?_
  rw [List.pairwise_map]
  exact hr.imp (fun h => by simpa using before_le _ _ h)

set_option maxHeartbeats 1000000 in
theorem names_any {w : World} {S : Nat → Prop} {a size : Nat} {mo : Option Nat} {fs : List (List UInt8 × FileE)} (h : DiskM w S a size mo fs) :
    Calls Tryz.prog 40 #[.pointer (some ⟨a, 0, none⟩)] w fun e w' => ∃ v, e = .returned v ∧ w'.ownsRow w.heap.size 9 1 v fs.length ((fs.map (·.1)).map encStr) ∧ Below w.heap.size w w' := by
  have c1 := h.c1
  have hr := h.rising
  have hfew := h.few
  refine (callsIn_wide (n := 6)).1 ?_
  have hfK : Fence.wide.fn 58 := trivial
  have hfS : Fence.wide.fn 57 := trivial
  cases mo with
  | some b =>
    have hown : w.ownsMap Tryz.prog 9 Rh b fs.length (dmap fs) := h.files
    have hmax : Maps.size (dmap fs) ≤ maxLen := by rw [dmap_size]; unfold maxLen; omega
    have hbytes : Maps.size (dmap fs) * 16 ≤ 140737488355328 := by rw [dmap_size]; omega
    clear h
    refine callsIn_of_wp Tryz.func40 rfl trivial ?_ rfl
    simp only [Tryz.ntmps40, List.size_toArray, List.length_cons, List.length_nil, Nat.reduceAdd, Nat.reduceSub, Array.replicate_succ, Array.replicate_zero, List.push_toArray, List.append_toArray, List.nil_append, List.cons_append]
    gi_wp2_with (first
      | (gi_at_call 58; refine (Tryz.maps_Keys_47 _ _).mono ?_; rintro e w' ⟨rfl, rfl⟩)
      | (gi_at_call 57; refine (Tryz.slices_Sorted_keys_46_47 b fs.length (dmap fs) Rh w hown hmax hbytes).mono ?_; rintro e w' ⟨v, ss, rfl, hS, hrow, hnil, hb⟩))
    go_ret
    rw [strKeys_dmap] at hS
    have hl : ss.length = fs.length := by simpa using hS.length_eq
    rw [sorted_names hr hS, hl] at hrow
    exact ⟨v, rfl, ownsRow_base_a hrow (by simp), ((Below.refl _ w).alloc (Nat.le_refl _) _).trans (hb.mono (by simp))⟩
  | none =>
    have e0 : fs = [] := h.files
    subst e0
    clear h
    refine callsIn_of_wp Tryz.func40 rfl trivial ?_ rfl
    simp only [Tryz.ntmps40, List.size_toArray, List.length_cons, List.length_nil, Nat.reduceAdd, Nat.reduceSub, Array.replicate_succ, Array.replicate_zero, List.push_toArray, List.append_toArray, List.nil_append, List.cons_append]
    gi_wp2_with (first
      | (gi_at_call 58; refine (Tryz.maps_Keys_47 _ _).mono ?_; rintro e w' ⟨rfl, rfl⟩)
      | (gi_at_call 57; refine (Tryz.slices_Sorted_keys_nil_46_47 w).mono ?_; rintro e w' ⟨v, ss, rfl, hS, hrow, hnil, hb⟩))
    go_ret
    subst hS
    have e2 : ([] : List (List UInt8)).mergeSort (fun x y => decide (x ≤ y)) = [] := by simp
    rw [e2] at hrow
    exact ⟨v, rfl, ownsRow_base_a hrow (by simp), ((Below.refl _ w).alloc (Nat.le_refl _) _).trans (hb.mono (by simp))⟩
end Go.Proofs.YtjggdecjnnpjaaaGreat

/- What Free and admit do. -/
namespace Go.Proofs.YtjggdecjnnpjaaaGreat
open Go.RowKit Go.Maps
open Go.WideMaps (keyOf_string_mk)
set_option maxRecDepth 100000
set_option linter.unusedSimpArgs false

theorem MapAt.len {w : World} {mo : Option Nat} {fs : List (List UInt8 × FileE)} (h : MapAt w mo fs) (ty : TypeId) : (Builtin.len_ #[80] ty #[.map mo]).run Tryz.prog w = .ok (.int .i64 (fs.length : Int)) w := by
  cases mo with
  | none => have e : fs = [] := h; subst e; exact Maps.len_nil Tryz.underlying80 ty
  | some b =>
    have := World.ownsMap.len h Tryz.underlying80 ty
    rw [dmap_size] at this
    exact this

def doneB (left : Lit → Bool) : List (List UInt8 × FileE) → Nat
  | [] => 0
  | p :: r => (if left (.string p.1) then 0 else p.2.bs.length) + doneB left r

theorem doneB_start (left : Lit → Bool) : ∀ fs : List (List UInt8 × FileE), (∀ p ∈ fs, left (.string p.1) = true) → doneB left fs = 0
  | [], _ => rfl
  | p :: r, h => by simp [doneB, h p (by simp), doneB_start left r (fun q hq => h q (by simp [hq]))]

theorem doneB_end (left : Lit → Bool) (hl : ∀ kl, left kl = false) : ∀ fs : List (List UInt8 × FileE), doneB left fs = total fs
  | [] => rfl
  | p :: r => by simp [doneB, total, hl, doneB_end left hl r]

theorem doneB_le (left : Lit → Bool) : ∀ fs : List (List UInt8 × FileE), doneB left fs ≤ total fs
  | [] => Nat.le_refl _
  | p :: r => by have := doneB_le left r; simp only [doneB, total]; split <;> omega

theorem doneB_other (left : Lit → Bool) (n : List UInt8) : ∀ fs : List (List UInt8 × FileE), (∀ p ∈ fs, p.1 ≠ n) → doneB (fun z => left z && !z.sameKey (.string n)) fs = doneB left fs
  | [], _ => rfl
  | p :: r, h => by
    have h1 : (p.1 == n) = false := by simpa using h p (by simp)
    simp [doneB, sk, h1, doneB_other left n r (fun q hq => h q (by simp [hq]))]

theorem doneB_step (left : Lit → Bool) (n : List UInt8) (f : FileE) : ∀ fs : List (List UInt8 × FileE), fs.Pairwise (fun p q => p.1 ≠ q.1) → (n, f) ∈ fs → left (.string n) = true →
    doneB (fun z => left z && !z.sameKey (.string n)) fs = doneB left fs + f.bs.length
  | [], _, h, _ => by cases h
  | p :: r, hp, h, hl => by
    have hp' := List.pairwise_cons.1 hp
    rcases List.mem_cons.1 h with rfl | h
    · have := doneB_other left n r (fun q hq => (hp'.1 q hq).symm)
      simp only [doneB, this, sk, hl]
      simp
      omega
    · have h1 : (p.1 == n) = false := by simpa using hp'.1 _ h
      have := doneB_step left n f r hp'.2 h hl
      simp only [doneB, this, sk, h1]
      simp
      omega

theorem DiskM.keys {w : World} {S : Nat → Prop} {a size : Nat} {mo : Option Nat} {fs : List (List UInt8 × FileE)} (h : DiskM w S a size mo fs) : fs.Pairwise (fun p q => p.1 ≠ q.1) :=
  h.rising.imp (fun {p q} hb e => by rw [e, WideAt.bytes_irrefl] at hb; cases hb)

/-- What comes out of the range is a file. -/
theorem DiskM.of_at {w : World} {S : Nat → Prop} {a size : Nat} {mo : Option Nat} {fs : List (List UInt8 × FileE)} (h : DiskM w S a size mo fs) (n : List UInt8) (c : Option Addr × Nat × Nat × Int)
    (hat : ∀ zd, (dmap fs).atKey (.string n) zd = .held (mkF c)) : ∃ f, (n, f) ∈ fs ∧ f.val = mkF c ∧ c.2.1 = f.bs.length := by
  have h1 := hat .nil
  unfold DataW.atKey dmap at h1
  simp only [find_dmap] at h1
  cases hf : fs.find? (fun p => p.1 == n) with
  | none => rw [hf] at h1; cases h1
  | some p =>
    rw [hf] at h1
    simp only [Option.map_some, DataW.held.injEq] at h1
    have hm := List.mem_of_find?_eq_some hf
    have hk := List.find?_some hf
    simp at hk
    obtain ⟨oa, cap, e⟩ := (h.owns p hm).1.shape
    refine ⟨p.2, by rw [← hk]; exact hm, h1, ?_⟩
    unfold FileE.val mkF at h1
    rw [e] at h1
    simp at h1
    exact h1.1.2.1.symm

set_option maxHeartbeats 1000000 in
theorem free_some {w : World} {S : Nat → Prop} {a size : Nat} {b : Nat} {fs : List (List UInt8 × FileE)} (h : DiskM w S a size (some b) fs) :
    Calls Tryz.prog 67 #[.pointer (some ⟨a, 0, none⟩)] w fun e w' => e = .returned (.int .i64 ((size - total fs : Nat) : Int)) ∧ Below w.heap.size w w' := by
  have c0 := h.c0
  have c1 := h.c1
  have hroom := h.room
  have hsmall := h.small
  have hkeys := h.keys
  have hof := h.of_at
  have hown : w.ownsMap Tryz.prog 9 Rh b fs.length (dmap fs) := h.files
  have hbl := hown.lt
  have H : Hid (DiskM w S a size (some b) fs) := h
  clear h
  go_enter Tryz.func67, Tryz.ntmps67
  go_wp2_with (first
    | (at_range; refine wpList_range_own _ rfl _ 80 rfl 9 79 law9 Tryz.underlying80 _ b fs.length _ rfl hown ?_; intro w0 hrg0 hg0 hs0)
    | go_in)
  go_frame
  go_loopw [3] (fun fr wr => ∃ (left : Lit → Bool) (cnt : Nat), wr.ranges Tryz.prog 9 Rh b w.heap.size fs.length (dmap fs) left cnt ∧ fr = .int .i64 ((size - doneB left fs : Nat) : Int) ∧ Below w.heap.size w wr ∧ w.heap.size < wr.heap.size)
    (fun _ wr => wr.rangeLeft b w.heap.size)
  case atStart =>
    refine ⟨_, _, hrg0, ?_, (Below.refl _ _).grown hg0 (Nat.le_refl _) (fun j hj => by cases hj), by omega⟩
    rw [doneB_start _ fs (fun p hp => by rw [dmap_has]; unfold flook; simp only [Option.isSome_map]; exact List.find?_isSome.2 ⟨p, hp, by simp⟩)]
    rfl
  case round =>
    obtain ⟨left, cnt, hrg, rfl, hnx, hsz⟩ := hrel
    have hdl := doneB_le left fs
    go_wp2_with (first
      | (at_next; refine wpList_next_ranges _ rfl _ rfl 9 law9 Rh encStr (fun c : Option Addr × Nat × Nat × Int => Value.agg #[.slice c.1 c.2.1 c.2.2.1, .int .i64 c.2.2.2]) (fun key kl hkey => by obtain ⟨x, rfl, _⟩ := Maps.keyOf_str Tryz.underlying9 hkey; exact ⟨_, rfl⟩) (fun v y hv => (Rh_inv hv).1) b w.heap.size fs.length (dmap fs) left cnt rfl hrg ?_ ?_)
      | go_in)
    · intro hc0 hl0
      go_wp2
      go_ret
      rw [doneB_end left hl0]
      exact ⟨rfl, hnx⟩
    · intro x oa l cap sf kl y1 y2 w1 cnt1 hkey hlx hRy hat hrg1 hlt hg1 hs1 hen
      obtain ⟨x', hx', hkl, _⟩ := Maps.keyOf_str Tryz.underlying9 hkey
      cases encStr_inj hx'
      subst hkl
      have hy := (Rh_inv hRy).2
      simp only [Prod.mk.injEq] at hy
      obtain ⟨f, hm, hv, hl⟩ := hof x (oa, l, cap, sf) (fun zd => (hat zd).trans hy.1)
      have hstep := doneB_step left x f fs hkeys hm hlx
      have hle2 := doneB_le (fun z => left z && !z.sameKey (.string x)) fs
      simp only at hl
      have hlb : l ≤ size - doneB left fs := by omega
      have HS : Hid (doneB (fun z => left z && !z.sameKey (.string x)) fs = doneB left fs + l) := by rw [hl]; exact hstep
      clear hstep hat hv hy hRy hkey hx' hof hl hle2
      go_wp2
      go_roundw
      case rel =>
        refine ⟨_, cnt1, hrg1.alloc _, ?_, (hnx.grown hg1 hnx.size (fun j hj => by cases hj; exact Nat.le_refl _)).alloc (by omega) _, by simp; omega⟩
        rw [HS.out]
        go_num
      case measure => rw [(hrg1.alloc _).left_eq, hrg.left_eq]; exact hlt

set_option maxHeartbeats 400000 in
theorem free_none {w : World} {S : Nat → Prop} {a size : Nat} {fs : List (List UInt8 × FileE)} (h : DiskM w S a size none fs) :
    Calls Tryz.prog 67 #[.pointer (some ⟨a, 0, none⟩)] w fun e w' => e = .returned (.int .i64 ((size - total fs : Nat) : Int)) ∧ Below w.heap.size w w' := by
  have c0 := h.c0
  have c1 := h.c1
  have hfs : fs = [] := h.files
  subst hfs
  clear h
  have hrg := run_range_nilMap (P := Tryz.prog) w 80 9 79 Tryz.underlying80
  have hnx : ∀ ty, (Instr.next (.pointer (some ⟨w.heap.size, 0, none⟩)) false ty).run Tryz.prog (w.alloc (.mapIter none 0 #[] 0)) = _ := fun ty => run_next_nilMap _ ty 0 0 #[]
  go_enter Tryz.func67, Tryz.ntmps67
  go_wp2
  refine wp_loop_rounds 1 ?_
  rw [rounds_succ]
  go_wp2
  go_ret
  exact ⟨rfl, (Below.refl _ _).alloc (Nat.le_refl _) _⟩

theorem free_any {w : World} {S : Nat → Prop} {a size : Nat} {mo : Option Nat} {fs : List (List UInt8 × FileE)} (h : DiskM w S a size mo fs) :
    Calls Tryz.prog 67 #[.pointer (some ⟨a, 0, none⟩)] w fun e w' => e = .returned (.int .i64 ((size - total fs : Nat) : Int)) ∧ Below w.heap.size w w' := by
  cases mo with
  | none => exact free_none h
  | some b => exact free_some h

set_option maxHeartbeats 400000 in
theorem admit_bad {w : World} {a : Nat} (n : ByteArray) (hn : n.size ≤ maxLen) (hb : nameB n = false) :
    Calls Tryz.prog 66 #[.pointer (some ⟨a, 0, none⟩), .string n] w fun e w' => e = .returned (.int .i64 1) ∧ w' = w := by
  go_enter Tryz.func66, Tryz.ntmps66
  go_wp2_with (go_at_call 82; refine (isName_any _ _ hn).mono ?_; rintro e w' ⟨rfl, rfl⟩; rw [hb])
  go_ret
  exact ⟨rfl, rfl⟩

set_option maxHeartbeats 400000 in
theorem admit_there {w : World} {S : Nat → Prop} {a size : Nat} {mo : Option Nat} {fs : List (List UInt8 × FileE)} (h : DiskM w S a size mo fs) (n : ByteArray) (hn : n.size ≤ maxLen) (hb : nameB n = true) (hs : (flook fs n.data.toList).isSome = true) :
    Calls Tryz.prog 66 #[.pointer (some ⟨a, 0, none⟩), .string n] w fun e w' => e = .returned (.int .i64 0) ∧ Below w.heap.size w w' := by
  have c1 := h.c1
  have hl := h.files.look_ok n hn
  obtain ⟨oa, cap, e, _⟩ := h.at_name n.data.toList
  rw [e, hs] at hl
  clear h e hs
  go_enter Tryz.func66, Tryz.ntmps66
  go_wp2_with (go_at_call 82; refine (isName_any _ _ hn).mono ?_; rintro e w' ⟨rfl, rfl⟩; rw [hb])
  go_ret
  exact ⟨rfl, (Below.refl _ _).alloc (Nat.le_refl _) _⟩

set_option maxHeartbeats 400000 in
theorem admit_new {w : World} {S : Nat → Prop} {a size : Nat} {mo : Option Nat} {fs : List (List UInt8 × FileE)} (h : DiskM w S a size mo fs) (n : ByteArray) (hn : n.size ≤ maxLen) (hb : nameB n = true) (hs : (flook fs n.data.toList).isSome = false) :
    Calls Tryz.prog 66 #[.pointer (some ⟨a, 0, none⟩), .string n] w fun e w' => e = .returned (.int .i64 (if fs.length < 256 then 0 else 3)) ∧ Below w.heap.size w w' := by
  have hal := h.below a h.self
  have c1 := h.c1
  have c2 : ∀ o, (w.alloc o).cell? ⟨a, 1, none⟩ = some (.map mo) := fun o => (World.cell?_of_block (a := ⟨a, 1, none⟩) (Below.heap_alloc w o a hal)).trans c1
  have hln : ∀ o ty, (Builtin.len_ #[80] ty #[.map mo]).run Tryz.prog (w.alloc o) = .ok (.int .i64 (fs.length : Int)) (w.alloc o) := fun o ty => (h.files.kept (fun b hb => Below.heap_alloc w o b (h.files.lt b hb))).len ty
  have hl := h.files.look_ok n hn
  obtain ⟨oa, cap, e, _⟩ := h.at_name n.data.toList
  rw [e, hs] at hl
  clear h e hs
  by_cases h256 : fs.length < 256
  · have h3 : ¬ ((256 : Int) ≤ (fs.length : Int)) := by omega
    rw [if_pos h256]
    go_enter Tryz.func66, Tryz.ntmps66
    go_wp2_with (go_at_call 82; refine (isName_any _ _ hn).mono ?_; rintro e w' ⟨rfl, rfl⟩; rw [hb])
    go_ret
    exact ⟨rfl, (Below.refl _ _).alloc (Nat.le_refl _) _⟩
  · have h3 : ((256 : Int) ≤ (fs.length : Int)) := by omega
    rw [if_neg h256]
    go_enter Tryz.func66, Tryz.ntmps66
    go_wp2_with (go_at_call 82; refine (isName_any _ _ hn).mono ?_; rintro e w' ⟨rfl, rfl⟩; rw [hb])
    go_ret
    exact ⟨rfl, (Below.refl _ _).alloc (Nat.le_refl _) _⟩
end Go.Proofs.YtjggdecjnnpjaaaGreat

/- What copied does: the same bytes in new memory. -/
namespace Go.Proofs.YtjggdecjnnpjaaaGreat
open Go.RowKit Go.Maps
set_option maxRecDepth 100000
set_option linter.unusedSimpArgs false

theorem dinfo5 : (Tryz.prog.info? 5).map (fun i => (i.zero, i.size, i.bytes)) = some (some (.int .u8 0), 1, 1) := by kernel_rfl

/-- A slice whose cells hold such bytes, wherever. -/
def Src (w : World) (oa : Option Addr) (bs : List UInt8) : Prop :=
  (oa = none ∧ bs = []) ∨ ∃ g, oa = some ⟨g, 0, none⟩ ∧ ∀ i (hi : i < bs.length), w.cell? ⟨g, i, none⟩ = some (.int .u8 (bs[i].toNat : Int))

theorem u8s_oneCell (bs : List UInt8) : ∀ u ∈ u8s bs, u.oneCell' = true := by
  intro u hu
  simp only [u8s, List.mem_map] at hu
  obtain ⟨b, _, rfl⟩ := hu
  rfl

theorem ownsRow_bytes {w : World} {base : Nat} {v : Value} {bs : List UInt8} {S : Nat → Prop} (h : w.ownsRow base 5 1 v bs.length (u8s bs)) (hS : ∀ k, base ≤ k → k < w.heap.size → S k) : BytesAt w S v bs := by
  obtain ⟨_, ⟨rfl, h0⟩ | ⟨g, cap, cur, rfl, hb, hg, hn, hc, hs, ht⟩⟩ := h
  · exact .inl ⟨rfl, List.eq_nil_of_length_eq_zero h0⟩
  · exact .inr ⟨g, cap, cur, (0, 0), rfl, hS g hb (Array.getElem?_eq_some_iff.1 hg).1, hg, hn, hc, by simpa using hs, .inl rfl, by simpa using ht⟩

set_option maxHeartbeats 400000 in
theorem copied_any (w : World) (oa : Option Addr) (cap : Nat) (bs : List UInt8) (hsrc : Src w oa bs) (hlen : bs.length ≤ 16777216) (hcap : oa = none → cap = 0) :
    Calls Tryz.prog 43 #[.slice oa bs.length cap] w fun e w' => ∃ v, e = .returned v ∧ BytesAt w' (fun k => w.heap.size ≤ k ∧ k < w'.heap.size) v bs ∧ Below w.heap.size w w' := by
  obtain ⟨i0, hi, hz0, hz1, hz2⟩ := info_parts dinfo5
  rcases hsrc with ⟨rfl, rfl⟩ | ⟨g, rfl, hc⟩
  · have := hcap rfl
    subst this
    go_enter Tryz.func43, Tryz.ntmps43
    go_wp2_with (at_builtin; refine wpList_append_own_none rfl _ _ 77 rfl w.heap.size 5 i0 1 Tryz.underlying77 hi _ 0 [] rfl (World.ownsRow_nil _ _ _ _) rfl ?_)
    go_ret
    exact ⟨_, rfl, .inl ⟨rfl, rfl⟩, Below.refl _ _⟩
  · have hnews : ∀ j u, (u8s bs)[j]? = some u → w.cell? ((⟨g, 0, none⟩ : Addr).add j) = some u := by
      intro j u hu
      have hadd : (⟨g, 0, none⟩ : Addr).add j = ⟨g, j, none⟩ := by unfold Addr.add; split <;> simp_all
      rcases Nat.lt_or_ge j bs.length with hj | hj
      · rw [hadd, hc j hj, ← hu]; simp [u8s, hj]
      · rw [List.getElem?_eq_none (by rw [u8s_length]; exact hj)] at hu; cases hu
    go_enter Tryz.func43, Tryz.ntmps43
    go_wp2_with (at_builtin; refine wpList_append_own _ rfl _ _ 77 rfl w.heap.size 5 i0 (.int .u8 0) 1 1 Tryz.underlying77 hi hz0 hz1 hz2 rfl (by decide) _ 0 [] rfl (World.ownsRow_nil _ _ _ _) ⟨g, 0, none⟩ bs.length cap (u8s bs) rfl (by rw [u8s_length, Nat.mul_one]) hnews (u8s_oneCell bs) (by unfold maxLen; omega) (by omega) (Nat.le_refl _) ?_; intro v w1 hown hgrow hnil)
    go_ret
    rw [Nat.zero_add, List.nil_append] at hown
    exact ⟨_, rfl, ownsRow_bytes hown (fun k h1 h2 => ⟨h1, h2⟩), (Below.refl _ _).grown hgrow (Nat.le_refl _) (fun k hk => by cases hk)⟩
end Go.Proofs.YtjggdecjnnpjaaaGreat

