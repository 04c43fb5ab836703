/- What the small functions do: pick, New, the look at a name. -/
import Derived.Test.YtclldpecbocclaaGreatK0
import Derived.Deep.RegionLaw
import Derived.Shelf.SlIter.Nil
import Derived.Shelf.SortM.Plain
import Derived.Shelf.SortM.SortNone
import Derived.Shelf.SlGeneric
import Derived.Ground.GgzProg
import Derived.Ground.SlgmProg
import Derived.Test.YtclldpecbocclaaGreatProg
namespace Go.Proofs.YtclldpecbocclaaGreat
open Go.RowKit Go.Maps


theorem neg_tmod (c n : Int) : (-(c + 1)).tmod n = -((c + 1).tmod n) := by rw [Int.neg_tmod]

def pickI (c n : Int) : Int := if c < 0 then (-(c + 1)) % n else c % n

theorem pickI_range (c n : Int) (hn : 1 ≤ n) : 0 ≤ pickI c n ∧ pickI c n < n := by
  unfold pickI
  split
  · exact ⟨Int.emod_nonneg _ (by omega), Int.emod_lt_of_pos _ (by omega)⟩
  · exact ⟨Int.emod_nonneg _ (by omega), Int.emod_lt_of_pos _ (by omega)⟩

set_option maxHeartbeats 400000 in
theorem new_yes (n : Int) (w : World) (h1 : 1 ≤ n) (h2 : n ≤ 16777216) :
    Calls Tryz.prog 5 #[.int .i64 n] w fun e w' => e = .returned (.tuple #[.pointer (some ⟨w.heap.size, 0, none⟩), .int .i64 0]) ∧ w' = w.alloc (.cells #[.int .i64 n, .map none] 59) := by
  have h3 : ¬ (n < 1) := by omega
  have h4 : ¬ (16777216 < n) := by omega
  go_enter Tryz.func5, Tryz.ntmps5
  go_wp2
  go_ret2
  exact ⟨rfl, rfl⟩

def nameByteB (c : Int) : Bool := decide (97 ≤ c) && decide (c ≤ 122) || decide (48 ≤ c) && decide (c ≤ 57) || c == 45 || c == 46

set_option maxHeartbeats 400000 in
theorem nameByte_any (c : Int) (w : World) (h0 : 0 ≤ c) (h1 : c ≤ 255) :
    Calls Tryz.prog 83 #[.int .u8 c] w fun e w' => e = .returned (.bool (nameByteB c)) ∧ w' = w := by
  go_enter Tryz.func83, Tryz.ntmps83
  go_wp2
  all_goals
    go_ret
    refine ⟨ret_bool ?_, rfl⟩
    rw [Bool.eq_iff_iff]
    simp [nameByteB]
    try omega

def nameB (s : ByteArray) : Bool := decide (1 ≤ s.size) && decide (s.size ≤ 64) && s.data.toList.all fun c => nameByteB (c.toNat : Int)

theorem all_step (s : ByteArray) (k : Nat) (h : k < s.size) : (s.data.toList.take (k + 1)).all (fun c => nameByteB (c.toNat : Int)) = ((s.data.toList.take k).all (fun c => nameByteB (c.toNat : Int)) && nameByteB (s[k].toNat : Int)) := by
  rw [List.take_succ_eq_append_getElem (by simpa using h), List.all_append]
  simp
  rfl

theorem all_end (s : ByteArray) (k : Nat) (h : k < s.size) (hb : nameByteB (s[k].toNat : Int) = false) : (s.data.toList).all (fun c => nameByteB (c.toNat : Int)) = false := by
  have hk : k < s.data.toList.length := by simpa using h
  rw [List.all_eq_false]
  exact ⟨s.data.toList[k], List.getElem_mem hk, by simp; exact hb⟩

set_option maxHeartbeats 800000 in
theorem isName_any (s : ByteArray) (w : World) (hs : s.size ≤ maxLen) :
    Calls Tryz.prog 68 #[.string s] w fun e w' => e = .returned (.bool (nameB s)) ∧ w' = w := by
  unfold maxLen at hs
  by_cases h1 : s.size < 1
  · have h1' : (s.size : Int) < 1 := by omega
    go_enter Tryz.func68, Tryz.ntmps68
    go_wp2
    go_ret
    exact ⟨ret_bool (by have : ¬ 1 ≤ s.size := by omega
                        simp [nameB, this]), rfl⟩
  by_cases h2 : 64 < s.size
  · have h1' : ¬ (s.size : Int) < 1 := by omega
    have h2' : 64 < (s.size : Int) := by omega
    go_enter Tryz.func68, Tryz.ntmps68
    go_wp2
    go_ret
    exact ⟨ret_bool (by have : ¬ s.size ≤ 64 := by omega
                        simp [nameB, this]), rfl⟩
  have h1' : ¬ (s.size : Int) < 1 := by omega
  have h2' : ¬ 64 < (s.size : Int) := by omega
  go_enter Tryz.func68, Tryz.ntmps68
  go_wp2
  go_loop [14] (fun i => ∃ k : Nat, k ≤ s.size ∧ i = .int .i64 k ∧ Hid ((s.data.toList.take k).all (fun c => nameByteB (c.toNat : Int)) = true)) (fun i => s.size - (intOf i).toNat)
  case atStart => exact ⟨0, Nat.zero_le _, rfl, by show _ = true; simp⟩
  case round =>
    obtain ⟨k, hk, rfl, hall⟩ := hrel
    by_cases hlt : k < s.size
    · have hb0 : 0 ≤ (s[k].toNat : Int) := by omega
      have hb1 : (s[k].toNat : Int) ≤ 255 := by have := s[k].toNat_lt; omega
      cases hc : nameByteB (s[k].toNat : Int)
      · have H := all_end s k hlt hc
        have HH : Hid ((s.data.toList).all (fun c => nameByteB (c.toNat : Int)) = false) := H
        clear H
        go_wp2_with (go_at_call 83; refine (nameByte_any _ _ hb0 hb1).mono ?_; rintro e w' ⟨rfl, rfl⟩; rw [hc])
        go_ret
        exact ⟨ret_bool (by simp only [nameB, HH.out, Bool.and_false]), rfl⟩
      · have HH : Hid ((s.data.toList.take (k + 1)).all (fun c => nameByteB (c.toNat : Int)) = true) := by show _ = true; rw [all_step s k hlt, hall.out, hc]; rfl
        go_wp2_with (go_at_call 83; refine (nameByte_any _ _ hb0 hb1).mono ?_; rintro e w' ⟨rfl, rfl⟩; rw [hc])
        go_round
        case rel => exact ⟨k + 1, by omega, by go_num, HH⟩
        case measure => simp [intOf]; omega
    · go_wp2
      go_ret
      have hk' : k = s.size := by omega
      subst hk'
      have h3 := hall.out
      rw [List.take_of_length_le (by simp)] at h3
      exact ⟨ret_bool (by simp only [nameB, h3, Bool.and_true]; have : 1 ≤ s.size ∧ s.size ≤ 64 := by omega
                          simp [this]), rfl⟩
end Go.Proofs.YtclldpecbocclaaGreat

/- What reads and the one store do: Size, Synced, Read, put. -/
namespace Go.Proofs.YtclldpecbocclaaGreat
open Go.RowKit Go.Maps
open Go.WideMaps (keyOf_string_mk)
set_option maxRecDepth 100000

theorem MapAt.kept {w w' : World} {mo : Option Nat} {fs : List (List UInt8 × FileE)} (h : MapAt w mo fs) (hb : ∀ b, mo = some b → w'.heap[b]? = w.heap[b]?) : MapAt w' mo fs := by
  cases mo with
  | none => exact h
  | some b =>
    obtain ⟨es, clock, hm, r⟩ := h
    exact ⟨es, clock, (hb b rfl).trans hm, r⟩

theorem MapAt.lt {w : World} {mo : Option Nat} {fs : List (List UInt8 × FileE)} (h : MapAt w mo fs) : ∀ b, mo = some b → b < w.heap.size := by
  intro b hb
  subst hb
  exact World.ownsMap.lt h

theorem MapAt.look {w : World} {mo : Option Nat} {fs : List (List UInt8 × FileE)} (h : MapAt w mo fs) (n : ByteArray) (hn : n.size ≤ maxLen) :
    (Instr.lookup 57 (.map mo) (.string n) false).run Tryz.prog w = .ok (fval fs n.data.toList) w := by
  have hkey := keyOf_string_mk Tryz.underlying9 hn
  cases mo with
  | none =>
    have e : fs = [] := h
    subst e
    exact Maps.look_nil false law9 Tryz.underlying57 (zero65 w) hkey
  | some b =>
    obtain ⟨v, ps, hrun, hv⟩ := World.ownsMap.lookup h law9 Tryz.underlying57 (zero65 w) (zd := .held zeroF) (zp := []) rfl hkey
    rw [dmap_atKey] at hv
    have hv := (Rh_inv hv).2
    simp only [Prod.mk.injEq, DataW.held.injEq] at hv
    rw [hrun, ← hv.1]

theorem MapAt.look_ok {w : World} {mo : Option Nat} {fs : List (List UInt8 × FileE)} (h : MapAt w mo fs) (n : ByteArray) (hn : n.size ≤ maxLen) :
    (Instr.lookup 57 (.map mo) (.string n) true).run Tryz.prog w = .ok (.tuple #[fval fs n.data.toList, .bool (flook fs n.data.toList).isSome]) w := by
  have hkey := keyOf_string_mk Tryz.underlying9 hn
  cases mo with
  | none =>
    have e : fs = [] := h
    subst e
    exact Maps.look_nil true law9 Tryz.underlying57 (zero65 w) hkey
  | some b =>
    obtain ⟨v, ps, hrun, hv⟩ := World.ownsMap.look_ok h law9 Tryz.underlying57 (zero65 w) (zd := .held zeroF) (zp := []) rfl hkey
    rw [dmap_atKey] at hv
    have hv := (Rh_inv hv).2
    simp only [Prod.mk.injEq, DataW.held.injEq] at hv
    rw [hrun, ← hv.1, dmap_has]

theorem flook_mem {fs : List (List UInt8 × FileE)} {n : List UInt8} {f : FileE} (h : flook fs n = some f) : (n, f) ∈ fs := by
  unfold flook at h
  obtain ⟨p, hp, rfl⟩ := Option.map_eq_some_iff.1 h
  have h1 := List.mem_of_find?_eq_some hp
  have h2 := List.find?_some hp
  simp at h2
  rw [← h2]
  exact h1

def safeAt (fs : List (List UInt8 × FileE)) (n : List UInt8) : Nat := match flook fs n with | some f => f.safe | none => 0
def bsAt (fs : List (List UInt8 × FileE)) (n : List UInt8) : List UInt8 := match flook fs n with | some f => f.bs | none => []

theorem DiskM.at_name {w : World} {S : Nat → Prop} {a size : Nat} {mo : Option Nat} {fs : List (List UInt8 × FileE)} (h : DiskM w S a size mo fs) (n : List UInt8) :
    ∃ oa cap, fval fs n = .agg #[.slice oa (bsAt fs n).length cap, .int .i64 (safeAt fs n : Int)] ∧ BytesAt w S (.slice oa (bsAt fs n).length cap) (bsAt fs n) ∧ safeAt fs n ≤ (bsAt fs n).length ∧ (bsAt fs n).length ≤ 16777216 := by
  unfold fval bsAt safeAt
  cases hf : flook fs n with
  | none => exact ⟨none, 0, rfl, .inl ⟨rfl, rfl⟩, Nat.le_refl _, by simp⟩
  | some f =>
    obtain ⟨hb, hs⟩ := h.owns _ (flook_mem hf)
    obtain ⟨oa, cap, e⟩ := hb.shape
    have ht := total_fdel_le fs n
    unfold lenAt at ht
    rw [hf] at ht
    have := h.room
    have := h.small
    exact ⟨oa, cap, by show Value.agg #[f.sv, _] = _; rw [e], by rw [← e]; exact hb, hs, by simp only at ht ⊢; omega⟩

theorem DiskM.c0 {w : World} {S : Nat → Prop} {a size : Nat} {mo : Option Nat} {fs : List (List UInt8 × FileE)} (h : DiskM w S a size mo fs) : w.cell? ⟨a, 0, none⟩ = some (.int .i64 (size : Int)) := by simp [World.cell?, h.cells]
theorem DiskM.c1 {w : World} {S : Nat → Prop} {a size : Nat} {mo : Option Nat} {fs : List (List UInt8 × FileE)} (h : DiskM w S a size mo fs) : w.cell? ⟨a, 1, none⟩ = some (.map mo) := by simp [World.cell?, h.cells]
theorem DiskM.f1 {w : World} {S : Nat → Prop} {a size : Nat} {mo : Option Nat} {fs : List (List UInt8 × FileE)} (h : DiskM w S a size mo fs) : w.frozen? ⟨a, 1, none⟩ = false := by simp [World.frozen?, h.cells]

theorem fld0 (x y : Value) (w : World) : (Instr.field 76 (.agg #[x, y]) 0).run Tryz.prog w = .ok x w := by kernel_rfl
theorem fld1 (x y : Value) (w : World) : (Instr.field 76 (.agg #[x, y]) 1).run Tryz.prog w = .ok y w := by kernel_rfl

theorem size_any {w : World} {S : Nat → Prop} {a size : Nat} {mo : Option Nat} {fs : List (List UInt8 × FileE)} (h : DiskM w S a size mo fs) (n : ByteArray) (hn : n.size ≤ maxLen) :
    Calls Tryz.prog 45 #[.pointer (some ⟨a, 0, none⟩), .string n] w fun e w' => e = .returned (.int .i64 ((bsAt fs n.data.toList).length : Int)) ∧ w' = w := by
  have c1 := h.c1
  have hl := h.files.look n hn
  obtain ⟨oa, cap, e, _⟩ := h.at_name n.data.toList
  rw [e] at hl
  clear h e
  have hf := fld0
  go_enter Tryz.func45, Tryz.ntmps45
  go_wp2
  go_ret
  exact ⟨rfl, rfl⟩

theorem BytesAt.cell {w : World} {S : Nat → Prop} {g cap : Nat} {bs : List UInt8} (h : BytesAt w S (.slice (some ⟨g, 0, none⟩) bs.length cap) bs) (i : Nat) (hi : i < bs.length) : w.cell? ⟨g, i, none⟩ = some (.int .u8 (bs[i].toNat : Int)) := by
  rcases h with ⟨h, _⟩ | ⟨g', cap', cur, mk, e, _, hh, hc, _, hsz, _, ht⟩
  · cases h
  · cases e
    have h1 : (cur.toList.take bs.length)[i]? = (u8s bs)[i]? := by rw [ht]
    have h2 : (u8s bs)[i]? = some (.int .u8 (bs[i].toNat : Int)) := by simp [u8s, hi]
    rw [h2, List.getElem?_take, if_pos hi] at h1
    simp only [World.cell?, hh]
    simpa using h1

theorem BytesAt.convert {w : World} {S : Nat → Prop} {oa : Option Addr} {cap : Nat} {bs : List UInt8} (h : BytesAt w S (.slice oa bs.length cap) bs) :
    (convert 74 9 (.slice oa bs.length cap)).run Tryz.prog w = .ok (.string (strOf bs)) w := by
  have h' := h
  rcases h with ⟨e, rfl⟩ | ⟨g', cap', cur, mk, e, _, hh, hc, _, hsz, _, ht⟩
  · cases e
    exact run_convert_bytes_nil w 74 5 Tryz.underlying74 Tryz.underlying5 _ _ 9 Tryz.underlying9
  · cases e
    have := run_convert_bytes_arg w 74 5 Tryz.underlying74 Tryz.underlying5 g' 0 bs.length cap (bs.map fun b => (b.toNat : Int)) (by simp) (fun i hi => by
      rw [Nat.zero_add, h'.cell i hi]
      simp [hi]) 9 Tryz.underlying9
    rw [this, strOfNums_u8]

theorem read_yes {w : World} {S : Nat → Prop} {a size : Nat} {mo : Option Nat} {fs : List (List UInt8 × FileE)} (h : DiskM w S a size mo fs) (n : ByteArray) (hn : n.size ≤ maxLen) (hs : (flook fs n.data.toList).isSome = true) :
    Calls Tryz.prog 55 #[.pointer (some ⟨a, 0, none⟩), .string n] w fun e w' => e = .returned (.tuple #[.string (strOf (bsAt fs n.data.toList)), .int .i64 0]) ∧ Below w.heap.size w w' := by
  have c1 := h.c1
  have hl := h.files.look_ok n hn
  obtain ⟨oa, cap, e, hb, _⟩ := h.at_name n.data.toList
  rw [e, hs] at hl
  have hcv : ∀ o, (convert 74 9 (.slice oa (bsAt fs n.data.toList).length cap)).run Tryz.prog (w.alloc o) = .ok (.string (strOf (bsAt fs n.data.toList))) (w.alloc o) := fun o =>
    (hb.kept (fun _ hk => hk) (fun k hk => Below.heap_alloc w o k (hb.lt k hk).2)).convert
  clear h e hs hb
  go_enter Tryz.func55, Tryz.ntmps55
  go_wp2
  go_ret2
  exact ⟨rfl, (Below.refl _ _).alloc (Nat.le_refl _) _⟩

theorem read_no {w : World} {S : Nat → Prop} {a size : Nat} {mo : Option Nat} {fs : List (List UInt8 × FileE)} (h : DiskM w S a size mo fs) (n : ByteArray) (hn : n.size ≤ maxLen) (hs : (flook fs n.data.toList).isSome = false) :
    Calls Tryz.prog 55 #[.pointer (some ⟨a, 0, none⟩), .string n] w fun e w' => e = .returned (.tuple #[.string ByteArray.empty, .int .i64 8]) ∧ Below w.heap.size w w' := by
  have c1 := h.c1
  have hl := h.files.look_ok n hn
  obtain ⟨oa, cap, e, hb, _⟩ := h.at_name n.data.toList
  rw [e, hs] at hl
  clear h e hs hb
  go_enter Tryz.func55, Tryz.ntmps55
  go_wp2
  go_ret2
  exact ⟨rfl, (Below.refl _ _).alloc (Nat.le_refl _) _⟩

end Go.Proofs.YtclldpecbocclaaGreat

/- What put does: the file stands in the map, nothing else is turned. -/
namespace Go.Proofs.YtclldpecbocclaaGreat
open Go.RowKit Go.Maps
open Go.WideMaps (keyOf_string_mk)
set_option maxRecDepth 100000
set_option linter.unusedSimpArgs false

set_option maxHeartbeats 400000 in
theorem put_some_walk (w w2 : World) (a b : Nat) (sv : Value) (safe : Int) (n : ByteArray) (hsv : ∃ oa l c, sv = .slice oa l c)
    (c1 : ∀ o, (w.alloc o).cell? ⟨a, 1, none⟩ = some (.map (some b)))
    (hrun : (Instr.mapUpdate 57 (.map (some b)) (.string n) (.agg #[sv, .int .i64 safe])).run Tryz.prog (w.alloc (.cells #[sv, .int .i64 safe] 76)).drew = .ok () w2) :
    Calls Tryz.prog 37 #[.pointer (some ⟨a, 0, none⟩), .string n, .agg #[sv, .int .i64 safe]] w fun e w' => e = .returned (.tuple #[]) ∧ w' = w2 := by
  obtain ⟨oa, l, c, rfl⟩ := hsv
  have he := fun W r => run_eql_map_nil (P := Tryz.prog) W 57 9 76 r Tryz.underlying57
  go_enter Tryz.func37, Tryz.ntmps37
  go_wp2
  go_region
  go_end0
  exact ⟨rfl, rfl⟩

set_option maxHeartbeats 400000 in
theorem put_none_walk (w w2 : World) (a : Nat) (sv : Value) (safe : Int) (n : ByteArray) (hsv : ∃ oa l c, sv = .slice oa l c)
    (c1 : ∀ o, (w.alloc o).cell? ⟨a, 1, none⟩ = some (.map none)) (f1 : ∀ o o2, ((w.alloc o).alloc o2).frozen? ⟨a, 1, none⟩ = false)
    (c2 : ∀ o o2, ((w.alloc o).alloc o2).cell? ⟨a, 1, none⟩ = some (.map none)) (ha : a < w.heap.size)
    (c3 : ∀ u o o2, (((w.setCell ⟨a, 1, none⟩ u).alloc o).alloc o2).cell? ⟨a, 1, none⟩ = some u)
    (hrun : (Instr.mapUpdate 57 (.map (some (w.heap.size + 1))) (.string n) (.agg #[sv, .int .i64 safe])).run Tryz.prog (((w.setCell ⟨a, 1, none⟩ (.map (some (w.heap.size + 1)))).alloc (.cells #[sv, .int .i64 safe] 76)).alloc (.map #[] 0)).drew = .ok () w2) :
    Calls Tryz.prog 37 #[.pointer (some ⟨a, 0, none⟩), .string n, .agg #[sv, .int .i64 safe]] w fun e w' => e = .returned (.tuple #[]) ∧ w' = w2 := by
  obtain ⟨oa, l, c, rfl⟩ := hsv
  have he := fun W r => run_eql_map_nil (P := Tryz.prog) W 57 9 76 r Tryz.underlying57
  have hmm := @run_makeMap Tryz.prog
  go_enter Tryz.func37, Tryz.ntmps37
  go_wp2
  go_region
  go_end0
  exact ⟨rfl, rfl⟩

theorem tight {w : World} {b m : Nat} {D : DataW Value} (h : w.ownsMap Tryz.prog 9 Rh b m D) : w.ownsMap Tryz.prog 9 Rh b (Maps.size D) D := by
  obtain ⟨es, clock, hm, F, hs, rfl⟩ := h
  exact ⟨es, clock, hm, F, by simp [Maps.size, length_sorted], rfl⟩

theorem BytesAt.block {w : World} {S : Nat → Prop} {sv : Value} {bs : List UInt8} (h : BytesAt w S sv bs) : ∀ k, sv.ownBlock = some k → ∃ cur mk, w.heap[k]? = some (.cells cur 5 mk) := by
  intro k hk
  rcases h with ⟨rfl, rfl⟩ | ⟨g, cap, cur, mk, rfl, hg, hh, _⟩
  · simp [Value.ownBlock] at hk
  · simp [Value.ownBlock] at hk
    subst hk
    exact ⟨cur, mk, hh⟩

theorem heap_drew (w : World) (k : Nat) : w.drew.heap[k]? = w.heap[k]? := rfl
theorem size_drew (w : World) : w.drew.heap.size = w.heap.size := rfl

theorem apart_fput {fs : List (List UInt8 × FileE)} (n : List UInt8) (f : FileE) (hA : fs.Pairwise (fun p q => ∀ k, p.2.sv.ownBlock = some k → q.2.sv.ownBlock ≠ some k))
    (hap : ∀ p ∈ fs, p.1 ≠ n → ∀ k, f.sv.ownBlock = some k → p.2.sv.ownBlock ≠ some k) : (fput fs n f).Pairwise (fun p q => ∀ k, p.2.sv.ownBlock = some k → q.2.sv.ownBlock ≠ some k) := by
  refine pair_fins (n, f) _ (fun p q h k hk hq => h k hq hk) _ (List.Pairwise.filter _ hA) (fun p hp => ?_)
  have h2 := List.mem_filter.1 hp
  exact hap p h2.1 (by simpa using h2.2)

/-- put, whatever the disk: its map holds the file under its name. -/
theorem put_any {w : World} {S : Nat → Prop} {a size : Nat} {mo : Option Nat} {fs : List (List UInt8 × FileE)} (h : DiskM w S a size mo fs) (n : ByteArray) (hn : n.size ≤ maxLen) (f : FileE)
    (hf : BytesAt w S f.sv f.bs) (hsafe : f.safe ≤ f.bs.length) (hap : ∀ p ∈ fs, p.1 ≠ n.data.toList → ∀ k, f.sv.ownBlock = some k → p.2.sv.ownBlock ≠ some k)
    (hroom : total (fput fs n.data.toList f) ≤ size) (hfew : (fput fs n.data.toList f).length ≤ 256) :
    Calls Tryz.prog 37 #[.pointer (some ⟨a, 0, none⟩), .string n, f.val] w fun e w' => e = .returned (.tuple #[]) ∧ ∃ S' mo', DiskM w' S' a size mo' (fput fs n.data.toList f) ∧ (∀ k, S' k → S k ∨ w.heap.size ≤ k) ∧ (∀ k, S k → S' k) ∧ Keeps S w w' := by
  have hsh : ∃ oa l c, f.sv = .slice oa l c := by obtain ⟨oa, c, e⟩ := hf.shape; exact ⟨oa, _, c, e⟩
  have hRf : Rh f.val = some (.held f.val, []) := by obtain ⟨oa, l, c, e⟩ := hsh; unfold FileE.val; rw [e]; exact Rh_mk _ _ _ _
  have hal := h.below a h.self
  have hkey := keyOf_string_mk Tryz.underlying9 hn
  have hc0 : ∀ (W : World), W.heap[a]? = w.heap[a]? → W.cell? ⟨a, 1, none⟩ = some (.map mo) := fun W hW => (World.cell?_of_block (a := ⟨a, 1, none⟩) hW).trans h.c1
  have hf0 : ∀ (W : World), W.heap[a]? = w.heap[a]? → W.frozen? ⟨a, 1, none⟩ = false := fun W hW => (World.frozen?_of_block (a := ⟨a, 1, none⟩) hW).trans h.f1
  have hA1 : ∀ o k, k < w.heap.size → (w.alloc o).heap[k]? = w.heap[k]? := fun o k hk => Below.heap_alloc w o k hk
  have hA2 : ∀ o o2 k, k < w.heap.size → ((w.alloc o).alloc o2).heap[k]? = w.heap[k]? := fun o o2 k hk => (Below.heap_alloc _ o2 k (by simp; omega)).trans (hA1 o k hk)
  cases mo with
  | some b =>
    have hown : w.ownsMap Tryz.prog 9 Rh b fs.length (dmap fs) := h.files
    have hmb : ∃ es clock, w.heap[b]? = some (.map es clock) := by obtain ⟨es, clock, e, _⟩ := hown; exact ⟨es, clock, e⟩
    obtain ⟨es, clock, hmb⟩ := hmb
    have hab : a ≠ b := fun e => by subst e; rw [h.cells] at hmb; cases hmb
    obtain ⟨w2, hrun, hown2, ht⟩ := ((hown.alloc (.cells #[f.sv, .int .i64 (f.safe : Int)] 76)).drew).store law9 Tryz.underlying57 (by have := h.few; unfold maxLen; omega) hkey hRf
    rw [dmap_put] at hown2
    have hg := ht.grown
    have hblk : ∀ k, k < w.heap.size → k ≠ b → w2.heap[k]? = w.heap[k]? := fun k hk hne => (hg.block k (by simp [size_drew]; omega) (by simpa using hne)).trans (hA1 _ k hk)
    have hsz : w.heap.size ≤ w2.heap.size := Nat.le_trans (by simp [size_drew]) hg.size
    have hbne : ∀ {sv : Value} {bs : List UInt8}, BytesAt w S sv bs → ∀ k, sv.ownBlock = some k → w2.heap[k]? = w.heap[k]? := fun hB k hk => hblk k (hB.lt k hk).2 (fun e => by
      obtain ⟨cur, mk, hh⟩ := hB.block k hk
      rw [e, hmb] at hh; cases hh)
    refine (put_some_walk w w2 a b f.sv f.safe n hsh (fun o => hc0 _ (hA1 o a hal)) hrun).mono ?_
    rintro e w' ⟨rfl, rfl⟩
    refine ⟨rfl, S, some b, ⟨fun k hk => Nat.lt_of_lt_of_le (h.below k hk) hsz, h.self, (hblk a hal hab).trans h.cells, ?_, h.mapS, fun p hp => ?_, apart_fput _ _ h.apart hap, hroom, h.small, hfew⟩, fun k hk => .inl hk, fun k hk => hk, ⟨hg.os, hg.tape, hg.output, hsz, fun k hk hS => hblk k hk (fun e => hS (e ▸ h.mapS b rfl))⟩⟩
    · have := tight hown2
      rw [dmap_size] at this
      exact this
    · rcases (mem_fput _ _ _ _).1 hp with rfl | ⟨hp, _⟩
      · exact ⟨hf.kept (fun _ hk => hk) (hbne hf), hsafe⟩
      · exact ⟨(h.owns p hp).1.kept (fun _ hk => hk) (hbne (h.owns p hp).1), (h.owns p hp).2⟩
  | none =>
    have hfs : fs = [] := h.files
    subst hfs
    have hmade : (((w.setCell ⟨a, 1, none⟩ (.map (some (w.heap.size + 1)))).alloc (.cells #[f.sv, .int .i64 (f.safe : Int)] 76)).alloc (.map #[] 0)).drew.ownsMap Tryz.prog 9 Rh (w.heap.size + 1) 0 (.map []) := by
      have := World.ownsMap_made ((w.setCell ⟨a, 1, none⟩ (.map (some (w.heap.size + 1)))).alloc (.cells #[f.sv, .int .i64 (f.safe : Int)] 76)) Tryz.prog 9 Rh
      have e : ((w.setCell ⟨a, 1, none⟩ (.map (some (w.heap.size + 1)))).alloc (.cells #[f.sv, .int .i64 (f.safe : Int)] 76)).heap.size = w.heap.size + 1 := by simp [World.setCell]
      rw [e] at this
      exact this
    obtain ⟨w2, hrun, hown2, ht⟩ := hmade.store law9 Tryz.underlying57 (by unfold maxLen; omega) hkey hRf
    rw [show (DataW.map [] : DataW Value) = dmap [] from rfl, dmap_put] at hown2
    have hg := ht.grown
    have hS3 : ∀ u : Value, (w.setCell ⟨a, 1, none⟩ u).heap.size = w.heap.size := fun u => by simp [World.setCell]
    have hA3 : ∀ u o o2 k, k < w.heap.size → (((w.setCell ⟨a, 1, none⟩ u).alloc o).alloc o2).heap[k]? = (w.setCell ⟨a, 1, none⟩ u).heap[k]? := fun u o o2 k hk =>
      (Below.heap_alloc _ o2 k (by simp [hS3]; omega)).trans (Below.heap_alloc _ o k (by simp [hS3]; omega))
    have hca : ∀ u : Value, (w.setCell ⟨a, 1, none⟩ u).heap[a]? = some (.cells #[.int .i64 (size : Int), u] 59 (0, 0)) := fun u => by
      simp [World.setCell, Array.getElem?_modify, h.cells]
    have hblk : ∀ k, k < w.heap.size → k ≠ a → w2.heap[k]? = w.heap[k]? := fun k hk hne =>
      (hg.block k (by simp [size_drew, hS3]; omega) (by simp; omega)).trans ((hA3 _ _ _ k hk).trans (Below.heap_setCell w _ _ k hne))
    have hcw : w2.heap[a]? = some (.cells #[.int .i64 (size : Int), .map (some (w.heap.size + 1))] 59 (0, 0)) :=
      (hg.block a (by simp [size_drew, hS3]; omega) (by simp; omega)).trans ((hA3 _ _ _ a hal).trans (hca _))
    have hsz : w.heap.size + 2 ≤ w2.heap.size := Nat.le_trans (by simp [size_drew, hS3]) hg.size
    have hbne : ∀ {sv : Value} {bs : List UInt8}, BytesAt w S sv bs → ∀ k, sv.ownBlock = some k → w2.heap[k]? = w.heap[k]? := fun hB k hk => hblk k (hB.lt k hk).2 (fun e => by
      obtain ⟨cur, mk, hh⟩ := hB.block k hk
      rw [e, h.cells] at hh
      simp only [Option.some.injEq, Obj.cells.injEq] at hh
      exact absurd hh.2.1 (by decide))
    refine (put_none_walk w w2 a f.sv f.safe n hsh (fun o => hc0 _ (hA1 o a hal)) (fun o o2 => hf0 _ (hA2 o o2 a hal)) (fun o o2 => hc0 _ (hA2 o o2 a hal)) hal
      (fun u o o2 => by simp only [World.cell?, hA3 u o o2 a hal, hca u]; rfl) hrun).mono ?_
    rintro e w' ⟨rfl, rfl⟩
    refine ⟨rfl, fun k => S k ∨ k = w.heap.size + 1, some (w.heap.size + 1), ⟨fun k hk => ?_, .inl h.self, hcw, ?_, fun b hb => .inr (by cases hb; rfl), fun p hp => ?_, apart_fput _ _ h.apart hap, hroom, h.small, hfew⟩, fun k hk => ?_, fun k hk => .inl hk, ⟨hg.os, hg.tape, hg.output, by omega, fun k hk hS => hblk k hk (fun e => hS (e ▸ h.self))⟩⟩
    · rcases hk with hk | rfl
      · have := h.below k hk; omega
      · omega
    · have := tight hown2
      rw [dmap_size] at this
      exact this
    · rcases (mem_fput _ _ _ _).1 hp with rfl | ⟨hp, _⟩
      · exact ⟨hf.kept (fun _ hk => .inl hk) (hbne hf), hsafe⟩
      · cases hp
    · rcases hk with hk | rfl
      · exact .inl hk
      · exact .inr (by omega)

end Go.Proofs.YtclldpecbocclaaGreat

/- The library's contracts on the sorted keys of a map, laid at this program. -/
namespace Go.Proofs
open Go.RowKit Go.Maps Go.Sort Go.Shelf

def Tryz.keys47_ren : Go.Shelf.Ren := ⟨fun | 7 => 57 | 10 => 73 | n => n, fun | 23 => 57 | 26 => 9 | 3 => 76 | 28 => 94 | 0 => 0 | 27 => 93 | 33 => 115 | 4 => 4 | n => n, fun | n => n⟩
theorem Tryz.keys47 : Go.Proofs.SlLaysZ.n7 Tryz.prog Tryz.keys47_ren := {
  mixed := by kernel_rfl
  f7 := ⟨Tryz.f57.name, by decide, Tryz.func57.trans (congrArg some (by kernel_rfl))⟩
  f10 := ⟨Tryz.f73.name, by decide, Tryz.func73.trans (congrArg some (by kernel_rfl))⟩
  t0 := Tryz.underlying0
  a0 := Tryz.isAgg0
  z0 := Tryz.sizeOf0
  v0 := Tryz.zeroValue0
  t4 := Tryz.underlying4
  a4 := Tryz.isAgg4
  z4 := Tryz.sizeOf4
  v4 := Tryz.zeroValue4
  t23 := Tryz.underlying57
  a23 := Tryz.isAgg57
  z23 := Tryz.sizeOf57
  v23 := Tryz.zeroValue57
  t26 := Tryz.underlying9
  a26 := Tryz.isAgg9
  z26 := Tryz.sizeOf9
  v26 := Tryz.zeroValue9
  t27 := Tryz.underlying93
  a27 := Tryz.isAgg93
  z27 := Tryz.sizeOf93
  v27 := Tryz.zeroValue93
  t28 := Tryz.underlying94
  a28 := Tryz.isAgg94
  z28 := Tryz.sizeOf94
  v28 := Tryz.zeroValue94
  t33 := Tryz.underlying115
  a33 := Tryz.isAgg115
  z33 := Tryz.sizeOf115
  v33 := Tryz.zeroValue115 }
def Tryz.sorted46_ren : Go.Shelf.Ren := ⟨fun | 6 => 56 | 8 => 71 | 9 => 72 | 11 => 85 | 13 => 87 | 12 => 86 | 23 => 106 | 24 => 107 | 14 => 97 | 15 => 98 | 16 => 99 | 17 => 100 | 18 => 101 | 19 => 102 | 20 => 103 | 21 => 104 | 22 => 105 | 25 => 110 | 26 => 111 | 27 => 112 | 28 => 113 | 29 => 114 | 30 => 115 | 31 => 116 | n => n, fun | 26 => 9 | 28 => 94 | 24 => 72 | 0 => 0 | 3 => 3 | 37 => 122 | 48 => 126 | 50 => 136 | 4 => 4 | 40 => 140 | 39 => 139 | 45 => 145 | 5 => 5 | 9 => 9 | 51 => 149 | 55 => 153 | 57 => 155 | 58 => 42 | 33 => 115 | n => n, fun | n => n⟩
theorem Tryz.sorted46 : Go.Proofs.SlLaysZ.n6 Tryz.prog Tryz.sorted46_ren := {
  mixed := by kernel_rfl
  f6 := ⟨Tryz.f56.name, by decide, Tryz.func56.trans (congrArg some (by kernel_rfl))⟩
  f8 := ⟨Tryz.f71.name, by decide, Tryz.func71.trans (congrArg some (by kernel_rfl))⟩
  f11 := ⟨Tryz.f85.name, by decide, Tryz.func85.trans (congrArg some (by kernel_rfl))⟩
  t0 := Tryz.underlying0
  a0 := Tryz.isAgg0
  z0 := Tryz.sizeOf0
  v0 := Tryz.zeroValue0
  t24 := Tryz.underlying72
  a24 := Tryz.isAgg72
  z24 := Tryz.sizeOf72
  v24 := Tryz.zeroValue72
  t26 := Tryz.underlying9
  a26 := Tryz.isAgg9
  z26 := Tryz.sizeOf9
  v26 := Tryz.zeroValue9
  t28 := Tryz.underlying94
  a28 := Tryz.isAgg94
  z28 := Tryz.sizeOf94
  v28 := Tryz.zeroValue94
  i26 := by kernel_rfl }
def Tryz.sort55_ren : Go.Shelf.Ren := ⟨fun | 6 => 72 | 8 => 87 | 9 => 86 | 19 => 106 | 20 => 107 | 21 => 97 | 22 => 98 | 23 => 99 | 24 => 100 | 25 => 101 | 26 => 102 | 27 => 103 | 28 => 104 | 29 => 105 | 36 => 110 | 31 => 111 | 32 => 112 | 37 => 113 | 38 => 114 | 39 => 115 | 41 => 116 | n => n, fun | 27 => 72 | 29 => 9 | 3 => 3 | 32 => 122 | 26 => 72 | 0 => 0 | 44 => 126 | 46 => 136 | 4 => 4 | 36 => 140 | 35 => 139 | 41 => 145 | 5 => 5 | 9 => 9 | 53 => 149 | 57 => 153 | 63 => 155 | 64 => 42 | n => n, fun | n => n⟩
theorem Tryz.sort55 : Go.Proofs.SlLaysM.n6 Tryz.prog Tryz.sort55_ren := {
  mixed := by kernel_rfl
  f6 := ⟨Tryz.f72.name, by decide, Tryz.func72.trans (congrArg some (by kernel_rfl))⟩
  f8 := Tryz.func87.trans (congrArg some (by kernel_rfl))
  f9 := ⟨Tryz.f86.name, by decide, Tryz.func86.trans (congrArg some (by kernel_rfl))⟩
  f19 := Tryz.func106.trans (congrArg some (by kernel_rfl))
  f20 := Tryz.func107.trans (congrArg some (by kernel_rfl))
  f21 := ⟨Tryz.f97.name, by decide, Tryz.func97.trans (congrArg some (by kernel_rfl))⟩
  f22 := ⟨Tryz.f98.name, by decide, Tryz.func98.trans (congrArg some (by kernel_rfl))⟩
  f23 := ⟨Tryz.f99.name, by decide, Tryz.func99.trans (congrArg some (by kernel_rfl))⟩
  f24 := ⟨Tryz.f100.name, by decide, Tryz.func100.trans (congrArg some (by kernel_rfl))⟩
  f25 := ⟨Tryz.f101.name, by decide, Tryz.func101.trans (congrArg some (by kernel_rfl))⟩
  f26 := ⟨Tryz.f102.name, by decide, Tryz.func102.trans (congrArg some (by kernel_rfl))⟩
  f27 := ⟨Tryz.f103.name, by decide, Tryz.func103.trans (congrArg some (by kernel_rfl))⟩
  f28 := ⟨Tryz.f104.name, by decide, Tryz.func104.trans (congrArg some (by kernel_rfl))⟩
  f29 := ⟨Tryz.f105.name, by decide, Tryz.func105.trans (congrArg some (by kernel_rfl))⟩
  f31 := Tryz.func111.trans (congrArg some (by kernel_rfl))
  f32 := Tryz.func112.trans (congrArg some (by kernel_rfl))
  f36 := ⟨Tryz.f110.name, by decide, Tryz.func110.trans (congrArg some (by kernel_rfl))⟩
  f37 := ⟨Tryz.f113.name, by decide, Tryz.func113.trans (congrArg some (by kernel_rfl))⟩
  f38 := ⟨Tryz.f114.name, by decide, Tryz.func114.trans (congrArg some (by kernel_rfl))⟩
  f39 := ⟨Tryz.f115.name, by decide, Tryz.func115.trans (congrArg some (by kernel_rfl))⟩
  f41 := ⟨Tryz.f116.name, by decide, Tryz.func116.trans (congrArg some (by kernel_rfl))⟩
  t0 := Tryz.underlying0
  a0 := Tryz.isAgg0
  z0 := Tryz.sizeOf0
  v0 := Tryz.zeroValue0
  t3 := Tryz.underlying3
  a3 := Tryz.isAgg3
  z3 := Tryz.sizeOf3
  v3 := Tryz.zeroValue3
  t4 := Tryz.underlying4
  a4 := Tryz.isAgg4
  z4 := Tryz.sizeOf4
  v4 := Tryz.zeroValue4
  t5 := Tryz.underlying5
  a5 := Tryz.isAgg5
  z5 := Tryz.sizeOf5
  v5 := Tryz.zeroValue5
  t9 := Tryz.underlying9
  a9 := Tryz.isAgg9
  z9 := Tryz.sizeOf9
  v9 := Tryz.zeroValue9
  t26 := Tryz.underlying72
  a26 := Tryz.isAgg72
  z26 := Tryz.sizeOf72
  v26 := Tryz.zeroValue72
  t27 := Tryz.underlying72
  a27 := Tryz.isAgg72
  z27 := Tryz.sizeOf72
  v27 := Tryz.zeroValue72
  t29 := Tryz.underlying9
  a29 := Tryz.isAgg9
  z29 := Tryz.sizeOf9
  v29 := Tryz.zeroValue9
  t32 := Tryz.underlying122
  a32 := Tryz.isAgg122
  z32 := Tryz.sizeOf122
  v32 := Tryz.zeroValue122
  t35 := Tryz.underlying139
  a35 := Tryz.isAgg139
  z35 := Tryz.sizeOf139
  v35 := Tryz.zeroValue139
  t36 := Tryz.underlying140
  a36 := Tryz.isAgg140
  z36 := Tryz.sizeOf140
  v36 := Tryz.zeroValue140
  t41 := Tryz.underlying145
  a41 := Tryz.isAgg145
  z41 := Tryz.sizeOf145
  v41 := Tryz.zeroValue145
  t44 := Tryz.underlying126
  a44 := Tryz.isAgg126
  z44 := Tryz.sizeOf126
  v44 := Tryz.zeroValue126
  t46 := Tryz.underlying136
  a46 := Tryz.isAgg136
  z46 := Tryz.sizeOf136
  v46 := Tryz.zeroValue136
  t53 := Tryz.underlying149
  a53 := Tryz.isAgg149
  z53 := Tryz.sizeOf149
  v53 := Tryz.zeroValue149
  t57 := Tryz.underlying153
  a57 := Tryz.isAgg153
  z57 := Tryz.sizeOf153
  v57 := Tryz.zeroValue153
  t63 := Tryz.underlying155
  a63 := Tryz.isAgg155
  z63 := Tryz.sizeOf155
  v63 := Tryz.zeroValue155
  t64 := Tryz.underlying42
  a64 := Tryz.isAgg42
  z64 := Tryz.sizeOf42
  v64 := Tryz.zeroValue42 }

theorem Tryz.sorts46 (m : Nat) : AnyZ.SortsIn Tryz.prog Tryz.sorted46_ren Fence.wide m :=
  ⟨fun blk off cap ss W hH hblk hsz => callsIn_wide.2 (AnyM.slices_Sort_string Tryz.sort55 blk off cap ss W hH hblk hsz),
   fun p cap W => callsIn_wide.2 (AnyM.slices_Sort_string_none Tryz.sort55 p cap W)⟩

theorem Tryz.maps_Keys_47 (mb : Option Nat) (W : World) : CallsIn Fence.wide 5 Tryz.prog 57 #[.map mb] W fun e w' => e = .returned (.func (.func 73) #[] #[.pointer (some ⟨W.heap.size, 0, none⟩)]) ∧ w' = W.alloc (.cells #[.map mb] 57) :=
  AnyZ.keys_in Tryz.keys47 Fence.wide 5 trivial rfl mb W

set_option maxHeartbeats 1000000 in
theorem Tryz.slices_Sorted_keys_46_47 {H : Type} (b nn : Nat) (D0 : DataW H) (R : Value → Option (DataW H × List MemPlace)) (w : World) (hown : w.ownsMap Tryz.prog 9 R b nn D0) (hmax : Maps.size D0 ≤ maxLen) (hbytes : Maps.size D0 * 16 ≤ 140737488355328) :
    CallsIn Fence.wide 5 Tryz.prog 56 #[.func (.func 73) #[] #[.pointer (some ⟨w.heap.size, 0, none⟩)]] (w.alloc (.cells #[.map (some b)] 57)) fun e w' => ∃ (v : Value) (ss : List (List UInt8)), e = .returned v ∧ ss.Perm (strKeys D0) ∧
      w'.ownsRow (w.alloc (.cells #[.map (some b)] 57)).heap.size 9 1 v ss.length ((ss.mergeSort (fun x y => decide (x ≤ y))).map encStr) ∧ (v = .slice none 0 0 ↔ ss = []) ∧ Below (w.alloc (.cells #[.map (some b)] 57)).heap.size (w.alloc (.cells #[.map (some b)] 57)) w' := by
  have hbl := hown.lt
  have hseq : SeqGives Fence.wide 2 Tryz.prog 73 #[.pointer (some ⟨w.heap.size, 0, none⟩)] encStr (fun ss => ss.Perm (strKeys D0)) (Maps.size D0) (w.alloc (.cells #[.map (some b)] 57)) :=
    AnyZ.keys_gives (ρ := Tryz.keys47_ren) { Tryz.keys47 with } Fence.wide _ trivial rfl (by omega) w.heap.size b nn D0 _ (by simp) (by simp) (by
      obtain ⟨es, clock, hb, Ft, hs, hD⟩ := hown
      exact ⟨es, clock, (Below.heap_alloc _ _ b hbl).trans hb, Ft, hs, hD⟩)
  exact AnyZ.sorted_in Tryz.sorted46 Fence.wide 5 trivial trivial trivial trivial rfl (by omega) (Tryz.sorts46 _) (enters_of Tryz.func72 (by kernel_rfl) rfl) 73 #[.pointer (some ⟨w.heap.size, 0, none⟩)] trivial (enters_of Tryz.func73 (by kernel_rfl) rfl) _ _ hmax hbytes _ hseq

set_option maxHeartbeats 1000000 in
theorem Tryz.slices_Sorted_keys_nil_46_47 (w : World) :
    CallsIn Fence.wide 5 Tryz.prog 56 #[.func (.func 73) #[] #[.pointer (some ⟨w.heap.size, 0, none⟩)]] (w.alloc (.cells #[.map none] 57)) fun e w' => ∃ (v : Value) (ss : List (List UInt8)), e = .returned v ∧ ss = [] ∧
      w'.ownsRow (w.alloc (.cells #[.map none] 57)).heap.size 9 1 v ss.length ((ss.mergeSort (fun x y => decide (x ≤ y))).map encStr) ∧ (v = .slice none 0 0 ↔ ss = []) ∧ Below (w.alloc (.cells #[.map none] 57)).heap.size (w.alloc (.cells #[.map none] 57)) w' := by
  have hseq : SeqGives Fence.wide 2 Tryz.prog 73 #[.pointer (some ⟨w.heap.size, 0, none⟩)] encStr (fun ss : List (List UInt8) => ss = []) 0 (w.alloc (.cells #[.map none] 57)) :=
    AnyZ.keys_gives_nil (ρ := Tryz.keys47_ren) { Tryz.keys47 with } Fence.wide _ trivial rfl w.heap.size _ (by simp) (by simp)
  exact AnyZ.sorted_in Tryz.sorted46 Fence.wide 5 trivial trivial trivial trivial rfl (by omega) (Tryz.sorts46 _) (enters_of Tryz.func72 (by kernel_rfl) rfl) 73 #[.pointer (some ⟨w.heap.size, 0, none⟩)] trivial (enters_of Tryz.func73 (by kernel_rfl) rfl) _ 0 (Nat.zero_le _) (by omega) _ hseq

end Go.Proofs

/- What Names does: a new slice with the names, rising. -/
namespace Go.Proofs.YtclldpecbocclaaGreat
open Go.RowKit Go.Maps Go.Sort
set_option maxRecDepth 100000
set_option linter.unusedSimpArgs false

theorem before_le : ∀ (a b : List UInt8), bytesBefore a b = true → a ≤ b
  | [], [], h => by simp [bytesBefore] at h
  | [], y :: s, _ => by simp
  | x :: r, [], h => by simp [bytesBefore] at h
  | x :: r, y :: s, h => by
    simp only [bytesBefore, Bool.or_eq_true, Bool.and_eq_true, decide_eq_true_eq, beq_iff_eq] at h
    rw [List.cons_le_cons_iff]
    rcases h with h | ⟨h1, h2⟩
    · exact .inl h
    · exact .inr ⟨h1, before_le r s h2⟩

theorem DiskM.rising {w : World} {S : Nat → Prop} {a size : Nat} {mo : Option Nat} {fs : List (List UInt8 × FileE)} (h : DiskM w S a size mo fs) : fs.Pairwise (fun p q => bytesBefore p.1 q.1 = true) := by
  cases mo with
  | none => have e : fs = [] := h.files; subst e; exact List.Pairwise.nil
  | some b =>
    have hown : w.ownsMap Tryz.prog 9 Rh b fs.length (dmap fs) := h.files
    obtain ⟨es, he, hp, _⟩ := hown.canon law9
    have : es = fs.map fun p => (Lit.string p.1, (DataW.held p.2.val : DataW Value)) := by simp only [dmap, DataW.map.injEq] at he; exact he.symm
    subst this
    rw [List.pairwise_map] at hp
    exact hp

theorem strKeys_dmap (fs : List (List UInt8 × FileE)) : strKeys (dmap fs) = fs.map (·.1) := by
  simp [strKeys, dmap, Function.comp_def, Go.strOf]

theorem sorted_names {fs : List (List UInt8 × FileE)} (hr : fs.Pairwise (fun p q => bytesBefore p.1 q.1 = true)) {ss : List (List UInt8)} (hp : ss.Perm (fs.map (·.1))) : ss.mergeSort (fun x y => decide (x ≤ y)) = fs.map (·.1) := by
  have h1 : ss.mergeSort (fun x y => decide (x ≤ y)) = (fs.map (·.1)).mergeSort (fun x y => decide (x ≤ y)) := mergeSort_of_perm hp
  rw [h1]
  refine List.mergeSort_of_pairwise ?_
  rw [List.pairwise_map]
  exact hr.imp (fun h => by simpa using before_le _ _ h)

set_option maxHeartbeats 1000000 in
theorem names_any {w : World} {S : Nat → Prop} {a size : Nat} {mo : Option Nat} {fs : List (List UInt8 × FileE)} (h : DiskM w S a size mo fs) :
    Calls Tryz.prog 35 #[.pointer (some ⟨a, 0, none⟩)] w fun e w' => ∃ v, e = .returned v ∧ w'.ownsRow w.heap.size 9 1 v fs.length ((fs.map (·.1)).map encStr) ∧ Below w.heap.size w w' := by
  have c1 := h.c1
  have hr := h.rising
  have hfew := h.few
  refine (callsIn_wide (n := 6)).1 ?_
  have hfK : Fence.wide.fn 57 := trivial
  have hfS : Fence.wide.fn 56 := trivial
  cases mo with
  | some b =>
    have hown : w.ownsMap Tryz.prog 9 Rh b fs.length (dmap fs) := h.files
    have hmax : Maps.size (dmap fs) ≤ maxLen := by rw [dmap_size]; unfold maxLen; omega
    have hbytes : Maps.size (dmap fs) * 16 ≤ 140737488355328 := by rw [dmap_size]; omega
    clear h
    refine callsIn_of_wp Tryz.func35 rfl trivial ?_ rfl
    simp only [Tryz.ntmps35, List.size_toArray, List.length_cons, List.length_nil, Nat.reduceAdd, Nat.reduceSub, Array.replicate_succ, Array.replicate_zero, List.push_toArray, List.append_toArray, List.nil_append, List.cons_append]
    gi_wp2_with (first
      | (gi_at_call 57; refine (Tryz.maps_Keys_47 _ _).mono ?_; rintro e w' ⟨rfl, rfl⟩)
      | (gi_at_call 56; refine (Tryz.slices_Sorted_keys_46_47 b fs.length (dmap fs) Rh w hown hmax hbytes).mono ?_; rintro e w' ⟨v, ss, rfl, hS, hrow, hnil, hb⟩))
    go_ret
    rw [strKeys_dmap] at hS
    have hl : ss.length = fs.length := by simpa using hS.length_eq
    rw [sorted_names hr hS, hl] at hrow
    exact ⟨v, rfl, ownsRow_base_a hrow (by simp), ((Below.refl _ w).alloc (Nat.le_refl _) _).trans (hb.mono (by simp))⟩
  | none =>
    have e0 : fs = [] := h.files
    subst e0
    clear h
    refine callsIn_of_wp Tryz.func35 rfl trivial ?_ rfl
    simp only [Tryz.ntmps35, List.size_toArray, List.length_cons, List.length_nil, Nat.reduceAdd, Nat.reduceSub, Array.replicate_succ, Array.replicate_zero, List.push_toArray, List.append_toArray, List.nil_append, List.cons_append]
    gi_wp2_with (first
      | (gi_at_call 57; refine (Tryz.maps_Keys_47 _ _).mono ?_; rintro e w' ⟨rfl, rfl⟩)
      | (gi_at_call 56; refine (Tryz.slices_Sorted_keys_nil_46_47 w).mono ?_; rintro e w' ⟨v, ss, rfl, hS, hrow, hnil, hb⟩))
    go_ret
    subst hS
    have e2 : ([] : List (List UInt8)).mergeSort (fun x y => decide (x ≤ y)) = [] := by simp
    rw [e2] at hrow
    exact ⟨v, rfl, ownsRow_base_a hrow (by simp), ((Below.refl _ w).alloc (Nat.le_refl _) _).trans (hb.mono (by simp))⟩
end Go.Proofs.YtclldpecbocclaaGreat

