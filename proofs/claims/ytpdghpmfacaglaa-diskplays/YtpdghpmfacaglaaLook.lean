/- What reads and the one store do: Size, Synced, Read, put. -/
import Derived.Test.YtpdghpmfacaglaaLeaf
import Derived.Deep.RegionLaw
namespace Go.Proofs.Ytpdghpmfacaglaa
open Go.RowKit Go.Maps
open Go.WideMaps (keyOf_string_mk)
set_option maxRecDepth 100000

theorem MapAt.kept {w w' : World} {mo : Option Nat} {fs : List (List UInt8 × FileE)} (h : MapAt w mo fs) (hb : ∀ b, mo = some b → w'.heap[b]? = w.heap[b]?) : MapAt w' mo fs := by
  cases mo with
  | none => exact h
  | some b =>
    obtain ⟨es, clock, hm, r⟩ := h
    exact ⟨es, clock, (hb b rfl).trans hm, r⟩

theorem MapAt.lt {w : World} {mo : Option Nat} {fs : List (List UInt8 × FileE)} (h : MapAt w mo fs) : ∀ b, mo = some b → b < w.heap.size := by
  intro b hb
  subst hb
  exact World.ownsMap.lt h

theorem MapAt.look {w : World} {mo : Option Nat} {fs : List (List UInt8 × FileE)} (h : MapAt w mo fs) (n : ByteArray) (hn : n.size ≤ maxLen) :
    (Instr.lookup 54 (.map mo) (.string n) false).run Try.prog w = .ok (fval fs n.data.toList) w := by
  have hkey := keyOf_string_mk Try.underlying9 hn
  cases mo with
  | none =>
    have e : fs = [] := h
    subst e
    exact Maps.look_nil false law9 Try.underlying54 (zero65 w) hkey
  | some b =>
    obtain ⟨v, ps, hrun, hv⟩ := World.ownsMap.lookup h law9 Try.underlying54 (zero65 w) (zd := .held zeroF) (zp := []) rfl hkey
    rw [dmap_atKey] at hv
    have hv := (Rh_inv hv).2
    simp only [Prod.mk.injEq, DataW.held.injEq] at hv
    rw [hrun, ← hv.1]

theorem MapAt.look_ok {w : World} {mo : Option Nat} {fs : List (List UInt8 × FileE)} (h : MapAt w mo fs) (n : ByteArray) (hn : n.size ≤ maxLen) :
    (Instr.lookup 54 (.map mo) (.string n) true).run Try.prog w = .ok (.tuple #[fval fs n.data.toList, .bool (flook fs n.data.toList).isSome]) w := by
  have hkey := keyOf_string_mk Try.underlying9 hn
  cases mo with
  | none =>
    have e : fs = [] := h
    subst e
    exact Maps.look_nil true law9 Try.underlying54 (zero65 w) hkey
  | some b =>
    obtain ⟨v, ps, hrun, hv⟩ := World.ownsMap.look_ok h law9 Try.underlying54 (zero65 w) (zd := .held zeroF) (zp := []) rfl hkey
    rw [dmap_atKey] at hv
    have hv := (Rh_inv hv).2
    simp only [Prod.mk.injEq, DataW.held.injEq] at hv
    rw [hrun, ← hv.1, dmap_has]

theorem flook_mem {fs : List (List UInt8 × FileE)} {n : List UInt8} {f : FileE} (h : flook fs n = some f) : (n, f) ∈ fs := by
  unfold flook at h
  obtain ⟨p, hp, rfl⟩ := Option.map_eq_some_iff.1 h
  have h1 := List.mem_of_find?_eq_some hp
  have h2 := List.find?_some hp
  simp at h2
  rw [← h2]
  exact h1

def safeAt (fs : List (List UInt8 × FileE)) (n : List UInt8) : Nat := match flook fs n with | some f => f.safe | none => 0
def bsAt (fs : List (List UInt8 × FileE)) (n : List UInt8) : List UInt8 := match flook fs n with | some f => f.bs | none => []

theorem DiskM.at_name {w : World} {S : Nat → Prop} {a size : Nat} {mo : Option Nat} {fs : List (List UInt8 × FileE)} (h : DiskM w S a size mo fs) (n : List UInt8) :
    ∃ oa cap, fval fs n = .agg #[.slice oa (bsAt fs n).length cap, .int .i64 (safeAt fs n : Int)] ∧ BytesAt w S (.slice oa (bsAt fs n).length cap) (bsAt fs n) ∧ safeAt fs n ≤ (bsAt fs n).length ∧ (bsAt fs n).length ≤ 16777216 := by
  unfold fval bsAt safeAt
  cases hf : flook fs n with
  | none => exact ⟨none, 0, rfl, .inl ⟨rfl, rfl⟩, Nat.le_refl _, by simp⟩
  | some f =>
    obtain ⟨hb, hs⟩ := h.owns _ (flook_mem hf)
    obtain ⟨oa, cap, e⟩ := hb.shape
    have ht := total_fdel_le fs n
    unfold lenAt at ht
    rw [hf] at ht
    have := h.room
    have := h.small
    exact ⟨oa, cap, by show Value.agg #[f.sv, _] = _; rw [e], by rw [← e]; exact hb, hs, by simp only at ht ⊢; omega⟩

theorem DiskM.c0 {w : World} {S : Nat → Prop} {a size : Nat} {mo : Option Nat} {fs : List (List UInt8 × FileE)} (h : DiskM w S a size mo fs) : w.cell? ⟨a, 0, none⟩ = some (.int .i64 (size : Int)) := by simp [World.cell?, h.cells]
theorem DiskM.c1 {w : World} {S : Nat → Prop} {a size : Nat} {mo : Option Nat} {fs : List (List UInt8 × FileE)} (h : DiskM w S a size mo fs) : w.cell? ⟨a, 1, none⟩ = some (.map mo) := by simp [World.cell?, h.cells]
theorem DiskM.f1 {w : World} {S : Nat → Prop} {a size : Nat} {mo : Option Nat} {fs : List (List UInt8 × FileE)} (h : DiskM w S a size mo fs) : w.frozen? ⟨a, 1, none⟩ = false := by simp [World.frozen?, h.cells]

theorem fld0 (x y : Value) (w : World) : (Instr.field 65 (.agg #[x, y]) 0).run Try.prog w = .ok x w := by kernel_rfl
theorem fld1 (x y : Value) (w : World) : (Instr.field 65 (.agg #[x, y]) 1).run Try.prog w = .ok y w := by kernel_rfl

theorem size_any {w : World} {S : Nat → Prop} {a size : Nat} {mo : Option Nat} {fs : List (List UInt8 × FileE)} (h : DiskM w S a size mo fs) (n : ByteArray) (hn : n.size ≤ maxLen) :
    Calls Try.prog 25 #[.pointer (some ⟨a, 0, none⟩), .string n] w fun e w' => e = .returned (.int .i64 ((bsAt fs n.data.toList).length : Int)) ∧ w' = w := by
  have c1 := h.c1
  have hl := h.files.look n hn
  obtain ⟨oa, cap, e, _⟩ := h.at_name n.data.toList
  rw [e] at hl
  clear h e
  have hf := fld0
  go_enter Try.func25, Try.ntmps25
  go_wp2
  go_ret
  exact ⟨rfl, rfl⟩

theorem synced_any {w : World} {S : Nat → Prop} {a size : Nat} {mo : Option Nat} {fs : List (List UInt8 × FileE)} (h : DiskM w S a size mo fs) (n : ByteArray) (hn : n.size ≤ maxLen) :
    Calls Try.prog 20 #[.pointer (some ⟨a, 0, none⟩), .string n] w fun e w' => e = .returned (.int .i64 (safeAt fs n.data.toList : Int)) ∧ w' = w := by
  have c1 := h.c1
  have hl := h.files.look n hn
  obtain ⟨oa, cap, e, _⟩ := h.at_name n.data.toList
  rw [e] at hl
  clear h e
  have hf := fld1
  go_enter Try.func20, Try.ntmps20
  go_wp2
  go_ret
  exact ⟨rfl, rfl⟩

def strOf (bs : List UInt8) : ByteArray := ⟨bs.toArray⟩

theorem strOfNums_u8 (bs : List UInt8) : strOfNums (bs.map fun b => (b.toNat : Int)) = strOf bs := by
  have e : bs.map (fun b : UInt8 => UInt8.ofNat ((b.toNat : Int).toNat)) = bs := by
    induction bs with
    | nil => rfl
    | cons x r ih => simp only [List.map_cons, ih]; simp
  simp only [strOfNums, strOf, List.map_map, Function.comp_def, e]

theorem BytesAt.cell {w : World} {S : Nat → Prop} {g cap : Nat} {bs : List UInt8} (h : BytesAt w S (.slice (some ⟨g, 0, none⟩) bs.length cap) bs) (i : Nat) (hi : i < bs.length) : w.cell? ⟨g, i, none⟩ = some (.int .u8 (bs[i].toNat : Int)) := by
  rcases h with ⟨h, _⟩ | ⟨g', cap', cur, mk, e, _, hh, hc, _, hsz, _, ht⟩
  · cases h
  · cases e
    have h1 : (cur.toList.take bs.length)[i]? = (u8s bs)[i]? := by rw [ht]
    have h2 : (u8s bs)[i]? = some (.int .u8 (bs[i].toNat : Int)) := by simp [u8s, hi]
    rw [h2, List.getElem?_take, if_pos hi] at h1
    simp only [World.cell?, hh]
    simpa using h1

theorem BytesAt.convert {w : World} {S : Nat → Prop} {oa : Option Addr} {cap : Nat} {bs : List UInt8} (h : BytesAt w S (.slice oa bs.length cap) bs) :
    (convert 63 9 (.slice oa bs.length cap)).run Try.prog w = .ok (.string (strOf bs)) w := by
  have h' := h
  rcases h with ⟨e, rfl⟩ | ⟨g', cap', cur, mk, e, _, hh, hc, _, hsz, _, ht⟩
  · cases e
    exact run_convert_bytes_nil w 63 5 Try.underlying63 Try.underlying5 _ _ 9 Try.underlying9
  · cases e
    have := run_convert_bytes_arg w 63 5 Try.underlying63 Try.underlying5 g' 0 bs.length cap (bs.map fun b => (b.toNat : Int)) (by simp) (fun i hi => by
      rw [Nat.zero_add, h'.cell i hi]
      simp [hi]) 9 Try.underlying9
    rw [this, strOfNums_u8]

theorem read_yes {w : World} {S : Nat → Prop} {a size : Nat} {mo : Option Nat} {fs : List (List UInt8 × FileE)} (h : DiskM w S a size mo fs) (n : ByteArray) (hn : n.size ≤ maxLen) (hs : (flook fs n.data.toList).isSome = true) :
    Calls Try.prog 19 #[.pointer (some ⟨a, 0, none⟩), .string n] w fun e w' => e = .returned (.tuple #[.string (strOf (bsAt fs n.data.toList)), .int .i64 0]) ∧ Below w.heap.size w w' := by
  have c1 := h.c1
  have hl := h.files.look_ok n hn
  obtain ⟨oa, cap, e, hb, _⟩ := h.at_name n.data.toList
  rw [e, hs] at hl
  have hcv : ∀ o, (convert 63 9 (.slice oa (bsAt fs n.data.toList).length cap)).run Try.prog (w.alloc o) = .ok (.string (strOf (bsAt fs n.data.toList))) (w.alloc o) := fun o =>
    (hb.kept (fun _ hk => hk) (fun k hk => Below.heap_alloc w o k (hb.lt k hk).2)).convert
  clear h e hs hb
  go_enter Try.func19, Try.ntmps19
  go_wp2
  go_ret2
  exact ⟨rfl, (Below.refl _ _).alloc (Nat.le_refl _) _⟩

theorem read_no {w : World} {S : Nat → Prop} {a size : Nat} {mo : Option Nat} {fs : List (List UInt8 × FileE)} (h : DiskM w S a size mo fs) (n : ByteArray) (hn : n.size ≤ maxLen) (hs : (flook fs n.data.toList).isSome = false) :
    Calls Try.prog 19 #[.pointer (some ⟨a, 0, none⟩), .string n] w fun e w' => e = .returned (.tuple #[.string ByteArray.empty, .int .i64 8]) ∧ Below w.heap.size w w' := by
  have c1 := h.c1
  have hl := h.files.look_ok n hn
  obtain ⟨oa, cap, e, hb, _⟩ := h.at_name n.data.toList
  rw [e, hs] at hl
  clear h e hs hb
  go_enter Try.func19, Try.ntmps19
  go_wp2
  go_ret2
  exact ⟨rfl, (Below.refl _ _).alloc (Nat.le_refl _) _⟩

end Go.Proofs.Ytpdghpmfacaglaa
