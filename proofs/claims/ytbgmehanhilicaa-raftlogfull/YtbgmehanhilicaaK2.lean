/- What reads and the one store do: Size, Synced, Read, put. -/
import Derived.Test.YtbgmehanhilicaaK1
import Derived.Deep.RegionLaw
import Derived.Sort.KeysCollected
import Derived.Shelf.SlIterI.Nil
import Derived.Shelf.SortM.Plain
import Derived.Shelf.SortM.SortNone
import Derived.Shelf.SlGeneric
import Derived.Ground.GgzProg
import Derived.Ground.SlgmProg
namespace Go.Proofs.Ytbgmehanhilicaa
open Go.RowKit Go.Maps
open Go.WideMaps (keyOf_string_mk)
set_option maxRecDepth 100000

theorem MapAt.kept {w w' : World} {mo : Option Nat} {fs : List (List UInt8 × FileE)} (h : MapAt w mo fs) (hb : ∀ b, mo = some b → w'.heap[b]? = w.heap[b]?) : MapAt w' mo fs := by
  cases mo with
  | none => exact h
  | some b =>
    obtain ⟨es, clock, hm, r⟩ := h
    exact ⟨es, clock, (hb b rfl).trans hm, r⟩

theorem MapAt.lt {w : World} {mo : Option Nat} {fs : List (List UInt8 × FileE)} (h : MapAt w mo fs) : ∀ b, mo = some b → b < w.heap.size := by
  intro b hb
  subst hb
  exact World.ownsMap.lt h

theorem MapAt.look {w : World} {mo : Option Nat} {fs : List (List UInt8 × FileE)} (h : MapAt w mo fs) (n : ByteArray) (hn : n.size ≤ maxLen) :
    (Instr.lookup 58 (.map mo) (.string n) false).run Try.prog w = .ok (fval fs n.data.toList) w := by
  have hkey := keyOf_string_mk Try.underlying9 hn
  cases mo with
  | none =>
    have e : fs = [] := h
    subst e
    exact Maps.look_nil false law9 Try.underlying58 (zero65 w) hkey
  | some b =>
    obtain ⟨v, ps, hrun, hv⟩ := World.ownsMap.lookup h law9 Try.underlying58 (zero65 w) (zd := .held zeroF) (zp := []) rfl hkey
    rw [dmap_atKey] at hv
    have hv := (Rh_inv hv).2
    simp only [Prod.mk.injEq, DataW.held.injEq] at hv
    rw [hrun, ← hv.1]

theorem MapAt.look_ok {w : World} {mo : Option Nat} {fs : List (List UInt8 × FileE)} (h : MapAt w mo fs) (n : ByteArray) (hn : n.size ≤ maxLen) :
    (Instr.lookup 58 (.map mo) (.string n) true).run Try.prog w = .ok (.tuple #[fval fs n.data.toList, .bool (flook fs n.data.toList).isSome]) w := by
  have hkey := keyOf_string_mk Try.underlying9 hn
  cases mo with
  | none =>
    have e : fs = [] := h
    subst e
    exact Maps.look_nil true law9 Try.underlying58 (zero65 w) hkey
  | some b =>
    obtain ⟨v, ps, hrun, hv⟩ := World.ownsMap.look_ok h law9 Try.underlying58 (zero65 w) (zd := .held zeroF) (zp := []) rfl hkey
    rw [dmap_atKey] at hv
    have hv := (Rh_inv hv).2
    simp only [Prod.mk.injEq, DataW.held.injEq] at hv
    rw [hrun, ← hv.1, dmap_has]

theorem flook_mem {fs : List (List UInt8 × FileE)} {n : List UInt8} {f : FileE} (h : flook fs n = some f) : (n, f) ∈ fs := by
  unfold flook at h
  obtain ⟨p, hp, rfl⟩ := Option.map_eq_some_iff.1 h
  have h1 := List.mem_of_find?_eq_some hp
  have h2 := List.find?_some hp
  simp at h2
  rw [← h2]
  exact h1

def safeAt (fs : List (List UInt8 × FileE)) (n : List UInt8) : Nat := match flook fs n with | some f => f.safe | none => 0
def bsAt (fs : List (List UInt8 × FileE)) (n : List UInt8) : List UInt8 := match flook fs n with | some f => f.bs | none => []

theorem DiskM.at_name {w : World} {S : Nat → Prop} {a size : Nat} {mo : Option Nat} {fs : List (List UInt8 × FileE)} (h : DiskM w S a size mo fs) (n : List UInt8) :
    ∃ oa cap, fval fs n = .agg #[.slice oa (bsAt fs n).length cap, .int .i64 (safeAt fs n : Int)] ∧ BytesAt w S (.slice oa (bsAt fs n).length cap) (bsAt fs n) ∧ safeAt fs n ≤ (bsAt fs n).length ∧ (bsAt fs n).length ≤ 16777216 := by
  unfold fval bsAt safeAt
  cases hf : flook fs n with
  | none => exact ⟨none, 0, rfl, .inl ⟨rfl, rfl⟩, Nat.le_refl _, by simp⟩
  | some f =>
    obtain ⟨hb, hs⟩ := h.owns _ (flook_mem hf)
    obtain ⟨oa, cap, e⟩ := hb.shape
    have ht := total_fdel_le fs n
    unfold lenAt at ht
    rw [hf] at ht
    have := h.room
    have := h.small
    exact ⟨oa, cap, by show Value.agg #[f.sv, _] = _; rw [e], by rw [← e]; exact hb, hs, by simp only at ht ⊢; omega⟩

theorem DiskM.c0 {w : World} {S : Nat → Prop} {a size : Nat} {mo : Option Nat} {fs : List (List UInt8 × FileE)} (h : DiskM w S a size mo fs) : w.cell? ⟨a, 0, none⟩ = some (.int .i64 (size : Int)) := by simp [World.cell?, h.cells]
theorem DiskM.c1 {w : World} {S : Nat → Prop} {a size : Nat} {mo : Option Nat} {fs : List (List UInt8 × FileE)} (h : DiskM w S a size mo fs) : w.cell? ⟨a, 1, none⟩ = some (.map mo) := by simp [World.cell?, h.cells]
theorem DiskM.f1 {w : World} {S : Nat → Prop} {a size : Nat} {mo : Option Nat} {fs : List (List UInt8 × FileE)} (h : DiskM w S a size mo fs) : w.frozen? ⟨a, 1, none⟩ = false := by simp [World.frozen?, h.cells]

theorem fld0 (x y : Value) (w : World) : (Instr.field 78 (.agg #[x, y]) 0).run Try.prog w = .ok x w := by kernel_rfl
theorem fld1 (x y : Value) (w : World) : (Instr.field 78 (.agg #[x, y]) 1).run Try.prog w = .ok y w := by kernel_rfl

theorem size_any {w : World} {S : Nat → Prop} {a size : Nat} {mo : Option Nat} {fs : List (List UInt8 × FileE)} (h : DiskM w S a size mo fs) (n : ByteArray) (hn : n.size ≤ maxLen) :
    Calls Try.prog 42 #[.pointer (some ⟨a, 0, none⟩), .string n] w fun e w' => e = .returned (.int .i64 ((bsAt fs n.data.toList).length : Int)) ∧ w' = w := by
  have c1 := h.c1
  have hl := h.files.look n hn
  obtain ⟨oa, cap, e, _⟩ := h.at_name n.data.toList
  rw [e] at hl
  clear h e
  have hf := fld0
  go_enter Try.func42, Try.ntmps42
  go_wp2
  go_ret
  exact ⟨rfl, rfl⟩

theorem BytesAt.cell {w : World} {S : Nat → Prop} {g cap : Nat} {bs : List UInt8} (h : BytesAt w S (.slice (some ⟨g, 0, none⟩) bs.length cap) bs) (i : Nat) (hi : i < bs.length) : w.cell? ⟨g, i, none⟩ = some (.int .u8 (bs[i].toNat : Int)) := by
  rcases h with ⟨h, _⟩ | ⟨g', cap', cur, mk, e, _, hh, hc, _, hsz, _, ht⟩
  · cases h
  · cases e
    have h1 : (cur.toList.take bs.length)[i]? = (u8s bs)[i]? := by rw [ht]
    have h2 : (u8s bs)[i]? = some (.int .u8 (bs[i].toNat : Int)) := by simp [u8s, hi]
    rw [h2, List.getElem?_take, if_pos hi] at h1
    simp only [World.cell?, hh]
    simpa using h1

theorem BytesAt.convert {w : World} {S : Nat → Prop} {oa : Option Addr} {cap : Nat} {bs : List UInt8} (h : BytesAt w S (.slice oa bs.length cap) bs) :
    (convert 53 9 (.slice oa bs.length cap)).run Try.prog w = .ok (.string (strOf bs)) w := by
  have h' := h
  rcases h with ⟨e, rfl⟩ | ⟨g', cap', cur, mk, e, _, hh, hc, _, hsz, _, ht⟩
  · cases e
    exact run_convert_bytes_nil w 53 5 Try.underlying53 Try.underlying5 _ _ 9 Try.underlying9
  · cases e
    have := run_convert_bytes_arg w 53 5 Try.underlying53 Try.underlying5 g' 0 bs.length cap (bs.map fun b => (b.toNat : Int)) (by simp) (fun i hi => by
      rw [Nat.zero_add, h'.cell i hi]
      simp [hi]) 9 Try.underlying9
    rw [this, strOfNums_u8]

theorem read_yes {w : World} {S : Nat → Prop} {a size : Nat} {mo : Option Nat} {fs : List (List UInt8 × FileE)} (h : DiskM w S a size mo fs) (n : ByteArray) (hn : n.size ≤ maxLen) (hs : (flook fs n.data.toList).isSome = true) :
    Calls Try.prog 48 #[.pointer (some ⟨a, 0, none⟩), .string n] w fun e w' => e = .returned (.tuple #[.string (strOf (bsAt fs n.data.toList)), .int .i64 0]) ∧ Below w.heap.size w w' := by
  have c1 := h.c1
  have hl := h.files.look_ok n hn
  obtain ⟨oa, cap, e, hb, _⟩ := h.at_name n.data.toList
  rw [e, hs] at hl
  have hcv : ∀ o, (convert 53 9 (.slice oa (bsAt fs n.data.toList).length cap)).run Try.prog (w.alloc o) = .ok (.string (strOf (bsAt fs n.data.toList))) (w.alloc o) := fun o =>
    (hb.kept (fun _ hk => hk) (fun k hk => Below.heap_alloc w o k (hb.lt k hk).2)).convert
  clear h e hs hb
  go_enter Try.func48, Try.ntmps48
  go_wp2
  go_ret2
  exact ⟨rfl, (Below.refl _ _).alloc (Nat.le_refl _) _⟩

theorem read_no {w : World} {S : Nat → Prop} {a size : Nat} {mo : Option Nat} {fs : List (List UInt8 × FileE)} (h : DiskM w S a size mo fs) (n : ByteArray) (hn : n.size ≤ maxLen) (hs : (flook fs n.data.toList).isSome = false) :
    Calls Try.prog 48 #[.pointer (some ⟨a, 0, none⟩), .string n] w fun e w' => e = .returned (.tuple #[.string ByteArray.empty, .int .i64 8]) ∧ Below w.heap.size w w' := by
  have c1 := h.c1
  have hl := h.files.look_ok n hn
  obtain ⟨oa, cap, e, hb, _⟩ := h.at_name n.data.toList
  rw [e, hs] at hl
  clear h e hs hb
  go_enter Try.func48, Try.ntmps48
  go_wp2
  go_ret2
  exact ⟨rfl, (Below.refl _ _).alloc (Nat.le_refl _) _⟩

end Go.Proofs.Ytbgmehanhilicaa

/- What put does: the file stands in the map, nothing else is turned. -/
namespace Go.Proofs.Ytbgmehanhilicaa
open Go.RowKit Go.Maps
open Go.WideMaps (keyOf_string_mk)
set_option maxRecDepth 100000
set_option linter.unusedSimpArgs false

set_option maxHeartbeats 400000 in
theorem put_some_walk (w w2 : World) (a b : Nat) (sv : Value) (safe : Int) (n : ByteArray) (hsv : ∃ oa l c, sv = .slice oa l c)
    (c1 : ∀ o, (w.alloc o).cell? ⟨a, 1, none⟩ = some (.map (some b)))
    (hrun : (Instr.mapUpdate 58 (.map (some b)) (.string n) (.agg #[sv, .int .i64 safe])).run Try.prog (w.alloc (.cells #[sv, .int .i64 safe] 78)).drew = .ok () w2) :
    Calls Try.prog 43 #[.pointer (some ⟨a, 0, none⟩), .string n, .agg #[sv, .int .i64 safe]] w fun e w' => e = .returned (.tuple #[]) ∧ w' = w2 := by
  obtain ⟨oa, l, c, rfl⟩ := hsv
  have he := fun W r => run_eql_map_nil (P := Try.prog) W 58 9 78 r Try.underlying58
  go_enter Try.func43, Try.ntmps43
  go_wp2
  go_region
  go_end0
  exact ⟨rfl, rfl⟩

set_option maxHeartbeats 400000 in
theorem put_none_walk (w w2 : World) (a : Nat) (sv : Value) (safe : Int) (n : ByteArray) (hsv : ∃ oa l c, sv = .slice oa l c)
    (c1 : ∀ o, (w.alloc o).cell? ⟨a, 1, none⟩ = some (.map none)) (f1 : ∀ o o2, ((w.alloc o).alloc o2).frozen? ⟨a, 1, none⟩ = false)
    (c2 : ∀ o o2, ((w.alloc o).alloc o2).cell? ⟨a, 1, none⟩ = some (.map none)) (ha : a < w.heap.size)
    (c3 : ∀ u o o2, (((w.setCell ⟨a, 1, none⟩ u).alloc o).alloc o2).cell? ⟨a, 1, none⟩ = some u)
    (hrun : (Instr.mapUpdate 58 (.map (some (w.heap.size + 1))) (.string n) (.agg #[sv, .int .i64 safe])).run Try.prog (((w.setCell ⟨a, 1, none⟩ (.map (some (w.heap.size + 1)))).alloc (.cells #[sv, .int .i64 safe] 78)).alloc (.map #[] 0)).drew = .ok () w2) :
    Calls Try.prog 43 #[.pointer (some ⟨a, 0, none⟩), .string n, .agg #[sv, .int .i64 safe]] w fun e w' => e = .returned (.tuple #[]) ∧ w' = w2 := by
  obtain ⟨oa, l, c, rfl⟩ := hsv
  have he := fun W r => run_eql_map_nil (P := Try.prog) W 58 9 78 r Try.underlying58
  have hmm := @run_makeMap Try.prog
  go_enter Try.func43, Try.ntmps43
  go_wp2
  go_region
  go_end0
  exact ⟨rfl, rfl⟩

theorem tight {w : World} {b m : Nat} {D : DataW Value} (h : w.ownsMap Try.prog 9 Rh b m D) : w.ownsMap Try.prog 9 Rh b (Maps.size D) D := by
  obtain ⟨es, clock, hm, F, hs, rfl⟩ := h
  exact ⟨es, clock, hm, F, by simp [Maps.size, length_sorted], rfl⟩

theorem BytesAt.block {w : World} {S : Nat → Prop} {sv : Value} {bs : List UInt8} (h : BytesAt w S sv bs) : ∀ k, sv.ownBlock = some k → ∃ cur mk, w.heap[k]? = some (.cells cur 5 mk) := by
  intro k hk
  rcases h with ⟨rfl, rfl⟩ | ⟨g, cap, cur, mk, rfl, hg, hh, _⟩
  · simp [Value.ownBlock] at hk
  · simp [Value.ownBlock] at hk
    subst hk
    exact ⟨cur, mk, hh⟩

theorem heap_drew (w : World) (k : Nat) : w.drew.heap[k]? = w.heap[k]? := rfl
theorem size_drew (w : World) : w.drew.heap.size = w.heap.size := rfl

theorem apart_fput {fs : List (List UInt8 × FileE)} (n : List UInt8) (f : FileE) (hA : fs.Pairwise (fun p q => ∀ k, p.2.sv.ownBlock = some k → q.2.sv.ownBlock ≠ some k))
    (hap : ∀ p ∈ fs, p.1 ≠ n → ∀ k, f.sv.ownBlock = some k → p.2.sv.ownBlock ≠ some k) : (fput fs n f).Pairwise (fun p q => ∀ k, p.2.sv.ownBlock = some k → q.2.sv.ownBlock ≠ some k) := by
  refine pair_fins (n, f) _ (fun p q h k hk hq => h k hq hk) _ (List.Pairwise.filter _ hA) (fun p hp => ?_)
  have h2 := List.mem_filter.1 hp
  exact hap p h2.1 (by simpa using h2.2)

/-- put, whatever the disk: its map holds the file under its name. -/
theorem put_any {w : World} {S : Nat → Prop} {a size : Nat} {mo : Option Nat} {fs : List (List UInt8 × FileE)} (h : DiskM w S a size mo fs) (n : ByteArray) (hn : n.size ≤ maxLen) (f : FileE)
    (hf : BytesAt w S f.sv f.bs) (hsafe : f.safe ≤ f.bs.length) (hap : ∀ p ∈ fs, p.1 ≠ n.data.toList → ∀ k, f.sv.ownBlock = some k → p.2.sv.ownBlock ≠ some k)
    (hroom : total (fput fs n.data.toList f) ≤ size) (hfew : (fput fs n.data.toList f).length ≤ 256) :
    Calls Try.prog 43 #[.pointer (some ⟨a, 0, none⟩), .string n, f.val] w fun e w' => e = .returned (.tuple #[]) ∧ ∃ S' mo', DiskM w' S' a size mo' (fput fs n.data.toList f) ∧ (∀ k, S' k → S k ∨ w.heap.size ≤ k) ∧ (∀ k, S k → S' k) ∧ Keeps S w w' := by
  have hsh : ∃ oa l c, f.sv = .slice oa l c := by obtain ⟨oa, c, e⟩ := hf.shape; exact ⟨oa, _, c, e⟩
  have hRf : Rh f.val = some (.held f.val, []) := by obtain ⟨oa, l, c, e⟩ := hsh; unfold FileE.val; rw [e]; exact Rh_mk _ _ _ _
  have hal := h.below a h.self
  have hkey := keyOf_string_mk Try.underlying9 hn
  have hc0 : ∀ (W : World), W.heap[a]? = w.heap[a]? → W.cell? ⟨a, 1, none⟩ = some (.map mo) := fun W hW => (World.cell?_of_block (a := ⟨a, 1, none⟩) hW).trans h.c1
  have hf0 : ∀ (W : World), W.heap[a]? = w.heap[a]? → W.frozen? ⟨a, 1, none⟩ = false := fun W hW => (World.frozen?_of_block (a := ⟨a, 1, none⟩) hW).trans h.f1
  have hA1 : ∀ o k, k < w.heap.size → (w.alloc o).heap[k]? = w.heap[k]? := fun o k hk => Below.heap_alloc w o k hk
  have hA2 : ∀ o o2 k, k < w.heap.size → ((w.alloc o).alloc o2).heap[k]? = w.heap[k]? := fun o o2 k hk => (Below.heap_alloc _ o2 k (by simp; omega)).trans (hA1 o k hk)
  cases mo with
  | some b =>
    have hown : w.ownsMap Try.prog 9 Rh b fs.length (dmap fs) := h.files
    have hmb : ∃ es clock, w.heap[b]? = some (.map es clock) := by obtain ⟨es, clock, e, _⟩ := hown; exact ⟨es, clock, e⟩
    obtain ⟨es, clock, hmb⟩ := hmb
    have hab : a ≠ b := fun e => by subst e; rw [h.cells] at hmb; cases hmb
    obtain ⟨w2, hrun, hown2, ht⟩ := ((hown.alloc (.cells #[f.sv, .int .i64 (f.safe : Int)] 78)).drew).store law9 Try.underlying58 (by have := h.few; unfold maxLen; omega) hkey hRf
    rw [dmap_put] at hown2
    have hg := ht.grown
    have hblk : ∀ k, k < w.heap.size → k ≠ b → w2.heap[k]? = w.heap[k]? := fun k hk hne => (hg.block k (by simp [size_drew]; omega) (by simpa using hne)).trans (hA1 _ k hk)
    have hsz : w.heap.size ≤ w2.heap.size := Nat.le_trans (by simp [size_drew]) hg.size
    have hbne : ∀ {sv : Value} {bs : List UInt8}, BytesAt w S sv bs → ∀ k, sv.ownBlock = some k → w2.heap[k]? = w.heap[k]? := fun hB k hk => hblk k (hB.lt k hk).2 (fun e => by
      obtain ⟨cur, mk, hh⟩ := hB.block k hk
      rw [e, hmb] at hh; cases hh)
    refine (put_some_walk w w2 a b f.sv f.safe n hsh (fun o => hc0 _ (hA1 o a hal)) hrun).mono ?_
    rintro e w' ⟨rfl, rfl⟩
    refine ⟨rfl, S, some b, ⟨fun k hk => Nat.lt_of_lt_of_le (h.below k hk) hsz, h.self, (hblk a hal hab).trans h.cells, ?_, h.mapS, fun p hp => ?_, apart_fput _ _ h.apart hap, hroom, h.small, hfew⟩, fun k hk => .inl hk, fun k hk => hk, ⟨hg.os, hg.tape, hg.output, hsz, fun k hk hS => hblk k hk (fun e => hS (e ▸ h.mapS b rfl))⟩⟩
    · have := tight hown2
      rw [dmap_size] at this
      exact this
    · rcases (mem_fput _ _ _ _).1 hp with rfl | ⟨hp, _⟩
      · exact ⟨hf.kept (fun _ hk => hk) (hbne hf), hsafe⟩
      · exact ⟨(h.owns p hp).1.kept (fun _ hk => hk) (hbne (h.owns p hp).1), (h.owns p hp).2⟩
  | none =>
    have hfs : fs = [] := h.files
    subst hfs
    have hmade : (((w.setCell ⟨a, 1, none⟩ (.map (some (w.heap.size + 1)))).alloc (.cells #[f.sv, .int .i64 (f.safe : Int)] 78)).alloc (.map #[] 0)).drew.ownsMap Try.prog 9 Rh (w.heap.size + 1) 0 (.map []) := by
      have := World.ownsMap_made ((w.setCell ⟨a, 1, none⟩ (.map (some (w.heap.size + 1)))).alloc (.cells #[f.sv, .int .i64 (f.safe : Int)] 78)) Try.prog 9 Rh
      have e : ((w.setCell ⟨a, 1, none⟩ (.map (some (w.heap.size + 1)))).alloc (.cells #[f.sv, .int .i64 (f.safe : Int)] 78)).heap.size = w.heap.size + 1 := by simp [World.setCell]
      rw [e] at this
      exact this
    obtain ⟨w2, hrun, hown2, ht⟩ := hmade.store law9 Try.underlying58 (by unfold maxLen; omega) hkey hRf
    rw [show (DataW.map [] : DataW Value) = dmap [] from rfl, dmap_put] at hown2
    have hg := ht.grown
    have hS3 : ∀ u : Value, (w.setCell ⟨a, 1, none⟩ u).heap.size = w.heap.size := fun u => by simp [World.setCell]
    have hA3 : ∀ u o o2 k, k < w.heap.size → (((w.setCell ⟨a, 1, none⟩ u).alloc o).alloc o2).heap[k]? = (w.setCell ⟨a, 1, none⟩ u).heap[k]? := fun u o o2 k hk =>
      (Below.heap_alloc _ o2 k (by simp [hS3]; omega)).trans (Below.heap_alloc _ o k (by simp [hS3]; omega))
    have hca : ∀ u : Value, (w.setCell ⟨a, 1, none⟩ u).heap[a]? = some (.cells #[.int .i64 (size : Int), u] 60 (0, 0)) := fun u => by
      simp [World.setCell, Array.getElem?_modify, h.cells]
    have hblk : ∀ k, k < w.heap.size → k ≠ a → w2.heap[k]? = w.heap[k]? := fun k hk hne =>
      (hg.block k (by simp [size_drew, hS3]; omega) (by simp; omega)).trans ((hA3 _ _ _ k hk).trans (Below.heap_setCell w _ _ k hne))
    have hcw : w2.heap[a]? = some (.cells #[.int .i64 (size : Int), .map (some (w.heap.size + 1))] 60 (0, 0)) :=
      (hg.block a (by simp [size_drew, hS3]; omega) (by simp; omega)).trans ((hA3 _ _ _ a hal).trans (hca _))
    have hsz : w.heap.size + 2 ≤ w2.heap.size := Nat.le_trans (by simp [size_drew, hS3]) hg.size
    have hbne : ∀ {sv : Value} {bs : List UInt8}, BytesAt w S sv bs → ∀ k, sv.ownBlock = some k → w2.heap[k]? = w.heap[k]? := fun hB k hk => hblk k (hB.lt k hk).2 (fun e => by
      obtain ⟨cur, mk, hh⟩ := hB.block k hk
      rw [e, h.cells] at hh
      simp only [Option.some.injEq, Obj.cells.injEq] at hh
      exact absurd hh.2.1 (by decide))
    refine (put_none_walk w w2 a f.sv f.safe n hsh (fun o => hc0 _ (hA1 o a hal)) (fun o o2 => hf0 _ (hA2 o o2 a hal)) (fun o o2 => hc0 _ (hA2 o o2 a hal)) hal
      (fun u o o2 => by simp only [World.cell?, hA3 u o o2 a hal, hca u]; rfl) hrun).mono ?_
    rintro e w' ⟨rfl, rfl⟩
    refine ⟨rfl, fun k => S k ∨ k = w.heap.size + 1, some (w.heap.size + 1), ⟨fun k hk => ?_, .inl h.self, hcw, ?_, fun b hb => .inr (by cases hb; rfl), fun p hp => ?_, apart_fput _ _ h.apart hap, hroom, h.small, hfew⟩, fun k hk => ?_, fun k hk => .inl hk, ⟨hg.os, hg.tape, hg.output, by omega, fun k hk hS => hblk k hk (fun e => hS (e ▸ h.self))⟩⟩
    · rcases hk with hk | rfl
      · have := h.below k hk; omega
      · omega
    · have := tight hown2
      rw [dmap_size] at this
      exact this
    · rcases (mem_fput _ _ _ _).1 hp with rfl | ⟨hp, _⟩
      · exact ⟨hf.kept (fun _ hk => .inl hk) (hbne hf), hsafe⟩
      · cases hp
    · rcases hk with hk | rfl
      · exact .inl hk
      · exact .inr (by omega)

end Go.Proofs.Ytbgmehanhilicaa

/- What Names does: a new slice with the names, rising. -/
namespace Go.Proofs.Ytbgmehanhilicaa
open Go.RowKit Go.Maps Go.Sort
set_option maxRecDepth 100000
set_option linter.unusedSimpArgs false

theorem before_le : ∀ (a b : List UInt8), bytesBefore a b = true → a ≤ b
  | [], [], h => by simp [bytesBefore] at h
  | [], y :: s, _ => by simp
  | x :: r, [], h => by simp [bytesBefore] at h
  | x :: r, y :: s, h => by
    simp only [bytesBefore, Bool.or_eq_true, Bool.and_eq_true, decide_eq_true_eq, beq_iff_eq] at h
    rw [List.cons_le_cons_iff]
    rcases h with h | ⟨h1, h2⟩
    · exact .inl h
    · exact .inr ⟨h1, before_le r s h2⟩

theorem DiskM.rising {w : World} {S : Nat → Prop} {a size : Nat} {mo : Option Nat} {fs : List (List UInt8 × FileE)} (h : DiskM w S a size mo fs) : fs.Pairwise (fun p q => bytesBefore p.1 q.1 = true) := by
  cases mo with
  | none => have e : fs = [] := h.files; subst e; exact List.Pairwise.nil
  | some b =>
    have hown : w.ownsMap Try.prog 9 Rh b fs.length (dmap fs) := h.files
    obtain ⟨es, he, hp, _⟩ := hown.canon law9
    have : es = fs.map fun p => (Lit.string p.1, (DataW.held p.2.val : DataW Value)) := by simp only [dmap, DataW.map.injEq] at he; exact he.symm
    subst this
    rw [List.pairwise_map] at hp
    exact hp

theorem strKeys_dmap (fs : List (List UInt8 × FileE)) : strKeys (dmap fs) = fs.map (·.1) := by
  simp [strKeys, dmap, Function.comp_def, Go.strOf]

end Go.Proofs.Ytbgmehanhilicaa

