/- What put does: the file stands in the map, nothing else is turned. -/
import Derived.Test.YtpdghpmfacaglaaLook
namespace Go.Proofs.Ytpdghpmfacaglaa
open Go.RowKit Go.Maps
open Go.WideMaps (keyOf_string_mk)
set_option maxRecDepth 100000
set_option linter.unusedSimpArgs false

set_option maxHeartbeats 400000 in
theorem put_some_walk (w w2 : World) (a b : Nat) (sv : Value) (safe : Int) (n : ByteArray) (hsv : ∃ oa l c, sv = .slice oa l c)
    (c1 : ∀ o, (w.alloc o).cell? ⟨a, 1, none⟩ = some (.map (some b)))
    (hrun : (Instr.mapUpdate 54 (.map (some b)) (.string n) (.agg #[sv, .int .i64 safe])).run Try.prog (w.alloc (.cells #[sv, .int .i64 safe] 65)).drew = .ok () w2) :
    Calls Try.prog 42 #[.pointer (some ⟨a, 0, none⟩), .string n, .agg #[sv, .int .i64 safe]] w fun e w' => e = .returned (.tuple #[]) ∧ w' = w2 := by
  obtain ⟨oa, l, c, rfl⟩ := hsv
  have he := fun W r => run_eql_map_nil (P := Try.prog) W 54 9 65 r Try.underlying54
  go_enter Try.func42, Try.ntmps42
  go_wp2
  go_region
  go_end0
  exact ⟨rfl, rfl⟩

set_option maxHeartbeats 400000 in
theorem put_none_walk (w w2 : World) (a : Nat) (sv : Value) (safe : Int) (n : ByteArray) (hsv : ∃ oa l c, sv = .slice oa l c)
    (c1 : ∀ o, (w.alloc o).cell? ⟨a, 1, none⟩ = some (.map none)) (f1 : ∀ o o2, ((w.alloc o).alloc o2).frozen? ⟨a, 1, none⟩ = false)
    (c2 : ∀ o o2, ((w.alloc o).alloc o2).cell? ⟨a, 1, none⟩ = some (.map none)) (ha : a < w.heap.size)
    (c3 : ∀ u o o2, (((w.setCell ⟨a, 1, none⟩ u).alloc o).alloc o2).cell? ⟨a, 1, none⟩ = some u)
    (hrun : (Instr.mapUpdate 54 (.map (some (w.heap.size + 1))) (.string n) (.agg #[sv, .int .i64 safe])).run Try.prog (((w.setCell ⟨a, 1, none⟩ (.map (some (w.heap.size + 1)))).alloc (.cells #[sv, .int .i64 safe] 65)).alloc (.map #[] 0)).drew = .ok () w2) :
    Calls Try.prog 42 #[.pointer (some ⟨a, 0, none⟩), .string n, .agg #[sv, .int .i64 safe]] w fun e w' => e = .returned (.tuple #[]) ∧ w' = w2 := by
  obtain ⟨oa, l, c, rfl⟩ := hsv
  have he := fun W r => run_eql_map_nil (P := Try.prog) W 54 9 65 r Try.underlying54
  have hmm := @run_makeMap Try.prog
  go_enter Try.func42, Try.ntmps42
  go_wp2
  go_region
  go_end0
  exact ⟨rfl, rfl⟩

theorem tight {w : World} {b m : Nat} {D : DataW Value} (h : w.ownsMap Try.prog 9 Rh b m D) : w.ownsMap Try.prog 9 Rh b (Maps.size D) D := by
  obtain ⟨es, clock, hm, F, hs, rfl⟩ := h
  exact ⟨es, clock, hm, F, by simp [Maps.size, length_sorted], rfl⟩

theorem BytesAt.block {w : World} {S : Nat → Prop} {sv : Value} {bs : List UInt8} (h : BytesAt w S sv bs) : ∀ k, sv.ownBlock = some k → ∃ cur mk, w.heap[k]? = some (.cells cur 5 mk) := by
  intro k hk
  rcases h with ⟨rfl, rfl⟩ | ⟨g, cap, cur, mk, rfl, hg, hh, _⟩
  · simp [Value.ownBlock] at hk
  · simp [Value.ownBlock] at hk
    subst hk
    exact ⟨cur, mk, hh⟩

theorem heap_drew (w : World) (k : Nat) : w.drew.heap[k]? = w.heap[k]? := rfl
theorem size_drew (w : World) : w.drew.heap.size = w.heap.size := rfl

theorem apart_fput {fs : List (List UInt8 × FileE)} (n : List UInt8) (f : FileE) (hA : fs.Pairwise (fun p q => ∀ k, p.2.sv.ownBlock = some k → q.2.sv.ownBlock ≠ some k))
    (hap : ∀ p ∈ fs, p.1 ≠ n → ∀ k, f.sv.ownBlock = some k → p.2.sv.ownBlock ≠ some k) : (fput fs n f).Pairwise (fun p q => ∀ k, p.2.sv.ownBlock = some k → q.2.sv.ownBlock ≠ some k) := by
  refine pair_fins (n, f) _ (fun p q h k hk hq => h k hq hk) _ (List.Pairwise.filter _ hA) (fun p hp => ?_)
  have h2 := List.mem_filter.1 hp
  exact hap p h2.1 (by simpa using h2.2)

/-- put, whatever the disk: its map holds the file under its name. -/
theorem put_any {w : World} {S : Nat → Prop} {a size : Nat} {mo : Option Nat} {fs : List (List UInt8 × FileE)} (h : DiskM w S a size mo fs) (n : ByteArray) (hn : n.size ≤ maxLen) (f : FileE)
    (hf : BytesAt w S f.sv f.bs) (hsafe : f.safe ≤ f.bs.length) (hap : ∀ p ∈ fs, p.1 ≠ n.data.toList → ∀ k, f.sv.ownBlock = some k → p.2.sv.ownBlock ≠ some k)
    (hroom : total (fput fs n.data.toList f) ≤ size) (hfew : (fput fs n.data.toList f).length ≤ 256) :
    Calls Try.prog 42 #[.pointer (some ⟨a, 0, none⟩), .string n, f.val] w fun e w' => e = .returned (.tuple #[]) ∧ ∃ S' mo', DiskM w' S' a size mo' (fput fs n.data.toList f) ∧ (∀ k, S' k → S k ∨ w.heap.size ≤ k) ∧ (∀ k, S k → S' k) ∧ Keeps S w w' := by
  have hsh : ∃ oa l c, f.sv = .slice oa l c := by obtain ⟨oa, c, e⟩ := hf.shape; exact ⟨oa, _, c, e⟩
  have hRf : Rh f.val = some (.held f.val, []) := by obtain ⟨oa, l, c, e⟩ := hsh; unfold FileE.val; rw [e]; exact Rh_mk _ _ _ _
  have hal := h.below a h.self
  have hkey := keyOf_string_mk Try.underlying9 hn
  have hc0 : ∀ (W : World), W.heap[a]? = w.heap[a]? → W.cell? ⟨a, 1, none⟩ = some (.map mo) := fun W hW => (World.cell?_of_block (a := ⟨a, 1, none⟩) hW).trans h.c1
  have hf0 : ∀ (W : World), W.heap[a]? = w.heap[a]? → W.frozen? ⟨a, 1, none⟩ = false := fun W hW => (World.frozen?_of_block (a := ⟨a, 1, none⟩) hW).trans h.f1
  have hA1 : ∀ o k, k < w.heap.size → (w.alloc o).heap[k]? = w.heap[k]? := fun o k hk => Below.heap_alloc w o k hk
  have hA2 : ∀ o o2 k, k < w.heap.size → ((w.alloc o).alloc o2).heap[k]? = w.heap[k]? := fun o o2 k hk => (Below.heap_alloc _ o2 k (by simp; omega)).trans (hA1 o k hk)
  cases mo with
  | some b =>
    have hown : w.ownsMap Try.prog 9 Rh b fs.length (dmap fs) := h.files
    have hmb : ∃ es clock, w.heap[b]? = some (.map es clock) := by obtain ⟨es, clock, e, _⟩ := hown; exact ⟨es, clock, e⟩
    obtain ⟨es, clock, hmb⟩ := hmb
    have hab : a ≠ b := fun e => by subst e; rw [h.cells] at hmb; cases hmb
    obtain ⟨w2, hrun, hown2, ht⟩ := ((hown.alloc (.cells #[f.sv, .int .i64 (f.safe : Int)] 65)).drew).store law9 Try.underlying54 (by have := h.few; unfold maxLen; omega) hkey hRf
    rw [dmap_put] at hown2
    have hg := ht.grown
    have hblk : ∀ k, k < w.heap.size → k ≠ b → w2.heap[k]? = w.heap[k]? := fun k hk hne => (hg.block k (by simp [size_drew]; omega) (by simpa using hne)).trans (hA1 _ k hk)
    have hsz : w.heap.size ≤ w2.heap.size := Nat.le_trans (by simp [size_drew]) hg.size
    have hbne : ∀ {sv : Value} {bs : List UInt8}, BytesAt w S sv bs → ∀ k, sv.ownBlock = some k → w2.heap[k]? = w.heap[k]? := fun hB k hk => hblk k (hB.lt k hk).2 (fun e => by
      obtain ⟨cur, mk, hh⟩ := hB.block k hk
      rw [e, hmb] at hh; cases hh)
    refine (put_some_walk w w2 a b f.sv f.safe n hsh (fun o => hc0 _ (hA1 o a hal)) hrun).mono ?_
    rintro e w' ⟨rfl, rfl⟩
    refine ⟨rfl, S, some b, ⟨fun k hk => Nat.lt_of_lt_of_le (h.below k hk) hsz, h.self, (hblk a hal hab).trans h.cells, ?_, h.mapS, fun p hp => ?_, apart_fput _ _ h.apart hap, hroom, h.small, hfew⟩, fun k hk => .inl hk, fun k hk => hk, ⟨hg.os, hg.tape, hg.output, hsz, fun k hk hS => hblk k hk (fun e => hS (e ▸ h.mapS b rfl))⟩⟩
    · have := tight hown2
      rw [dmap_size] at this
      exact this
    · rcases (mem_fput _ _ _ _).1 hp with rfl | ⟨hp, _⟩
      · exact ⟨hf.kept (fun _ hk => hk) (hbne hf), hsafe⟩
      · exact ⟨(h.owns p hp).1.kept (fun _ hk => hk) (hbne (h.owns p hp).1), (h.owns p hp).2⟩
  | none =>
    have hfs : fs = [] := h.files
    subst hfs
    have hmade : (((w.setCell ⟨a, 1, none⟩ (.map (some (w.heap.size + 1)))).alloc (.cells #[f.sv, .int .i64 (f.safe : Int)] 65)).alloc (.map #[] 0)).drew.ownsMap Try.prog 9 Rh (w.heap.size + 1) 0 (.map []) := by
      have := World.ownsMap_made ((w.setCell ⟨a, 1, none⟩ (.map (some (w.heap.size + 1)))).alloc (.cells #[f.sv, .int .i64 (f.safe : Int)] 65)) Try.prog 9 Rh
      have e : ((w.setCell ⟨a, 1, none⟩ (.map (some (w.heap.size + 1)))).alloc (.cells #[f.sv, .int .i64 (f.safe : Int)] 65)).heap.size = w.heap.size + 1 := by simp [World.setCell]
      rw [e] at this
      exact this
    obtain ⟨w2, hrun, hown2, ht⟩ := hmade.store law9 Try.underlying54 (by unfold maxLen; omega) hkey hRf
    rw [show (DataW.map [] : DataW Value) = dmap [] from rfl, dmap_put] at hown2
    have hg := ht.grown
    have hS3 : ∀ u : Value, (w.setCell ⟨a, 1, none⟩ u).heap.size = w.heap.size := fun u => by simp [World.setCell]
    have hA3 : ∀ u o o2 k, k < w.heap.size → (((w.setCell ⟨a, 1, none⟩ u).alloc o).alloc o2).heap[k]? = (w.setCell ⟨a, 1, none⟩ u).heap[k]? := fun u o o2 k hk =>
      (Below.heap_alloc _ o2 k (by simp [hS3]; omega)).trans (Below.heap_alloc _ o k (by simp [hS3]; omega))
    have hca : ∀ u : Value, (w.setCell ⟨a, 1, none⟩ u).heap[a]? = some (.cells #[.int .i64 (size : Int), u] 56 (0, 0)) := fun u => by
      simp [World.setCell, Array.getElem?_modify, h.cells]
    have hblk : ∀ k, k < w.heap.size → k ≠ a → w2.heap[k]? = w.heap[k]? := fun k hk hne =>
      (hg.block k (by simp [size_drew, hS3]; omega) (by simp; omega)).trans ((hA3 _ _ _ k hk).trans (Below.heap_setCell w _ _ k hne))
    have hcw : w2.heap[a]? = some (.cells #[.int .i64 (size : Int), .map (some (w.heap.size + 1))] 56 (0, 0)) :=
      (hg.block a (by simp [size_drew, hS3]; omega) (by simp; omega)).trans ((hA3 _ _ _ a hal).trans (hca _))
    have hsz : w.heap.size + 2 ≤ w2.heap.size := Nat.le_trans (by simp [size_drew, hS3]) hg.size
    have hbne : ∀ {sv : Value} {bs : List UInt8}, BytesAt w S sv bs → ∀ k, sv.ownBlock = some k → w2.heap[k]? = w.heap[k]? := fun hB k hk => hblk k (hB.lt k hk).2 (fun e => by
      obtain ⟨cur, mk, hh⟩ := hB.block k hk
      rw [e, h.cells] at hh
      simp only [Option.some.injEq, Obj.cells.injEq] at hh
      exact absurd hh.2.1 (by decide))
    refine (put_none_walk w w2 a f.sv f.safe n hsh (fun o => hc0 _ (hA1 o a hal)) (fun o o2 => hf0 _ (hA2 o o2 a hal)) (fun o o2 => hc0 _ (hA2 o o2 a hal)) hal
      (fun u o o2 => by simp only [World.cell?, hA3 u o o2 a hal, hca u]; rfl) hrun).mono ?_
    rintro e w' ⟨rfl, rfl⟩
    refine ⟨rfl, fun k => S k ∨ k = w.heap.size + 1, some (w.heap.size + 1), ⟨fun k hk => ?_, .inl h.self, hcw, ?_, fun b hb => .inr (by cases hb; rfl), fun p hp => ?_, apart_fput _ _ h.apart hap, hroom, h.small, hfew⟩, fun k hk => ?_, fun k hk => .inl hk, ⟨hg.os, hg.tape, hg.output, by omega, fun k hk hS => hblk k hk (fun e => hS (e ▸ h.self))⟩⟩
    · rcases hk with hk | rfl
      · have := h.below k hk; omega
      · omega
    · have := tight hown2
      rw [dmap_size] at this
      exact this
    · rcases (mem_fput _ _ _ _).1 hp with rfl | ⟨hp, _⟩
      · exact ⟨hf.kept (fun _ hk => .inl hk) (hbne hf), hsafe⟩
      · cases hp
    · rcases hk with hk | rfl
      · exact .inl hk
      · exact .inr (by omega)

end Go.Proofs.Ytpdghpmfacaglaa
