/- A record that came in and what is told, in two boxes; why a member's record is refused. -/
import Derived.Test.YtdnpbhijjmlecaaG8
import Derived.Test.YtdnpbhijjmlecaaG10
import Derived.Test.YtdnpbhijjmlecaaG1a
namespace Go.Proofs.Ytdnpbhijjmlecaa
open Go.RowKit Go.Maps
set_option maxRecDepth 100000
set_option linter.unusedSimpArgs false
set_option linter.unusedVariables false

def recV (m : Rc) (lv : Value) : Value := .agg #[.int .i64 m.kind, .int .i64 m.a, .int .i64 m.b, .int .i64 m.c, .int .i64 m.d, .string m.name, .string m.text, lv]
def recA (m : Rc) (lv : Value) : Array Value := #[.int .i64 m.kind, .int .i64 m.a, .int .i64 m.b, .int .i64 m.c, .int .i64 m.d, .string m.name, .string m.text, lv]
def zTd : Array Value := #[.int .i64 0, .int .i64 0, .int .i64 0, .int .i64 0, .slice none 0 0]
/-- The record's box and the box of what is told. -/
structure TB (Z : Nat → Prop) (w W : World) (cs zs : Array Value) : Prop where
  x : W.heap[w.heap.size]? = some (.cells cs 32)
  z : W.heap[w.heap.size + 1]? = some (.cells zs 36)
  k : Keeps Z w W
  s : w.heap.size + 2 ≤ W.heap.size
theorem tb_new (Z : Nat → Prop) (w : World) (cs zs : Array Value) : TB Z w ((w.alloc (.cells cs 32)).alloc (.cells zs 36)) cs zs := by
  refine ⟨?_, ?_, Keeps.of_below (((Below.refl _ _).alloc (Nat.le_refl _) _).alloc (by simp) _), by simp⟩
  · rw [Below.heap_alloc _ _ _ (by simp)]; exact heap_alloc_new _ _
  · have := heap_alloc_new (w.alloc (.cells cs 32)) (.cells zs 36)
    rw [show (w.alloc (.cells cs 32)).heap.size = w.heap.size + 1 by simp] at this
    exact this
theorem TB.next {Z T : Nat → Prop} {w W W' : World} {cs zs : Array Value} (h : TB Z w W cs zs) (hk : Keeps T W W') (ht : ∀ k, T k → Z k ∨ w.heap.size ≤ k) (hx : ¬ T w.heap.size) (hz : ¬ T (w.heap.size + 1)) : TB Z w W' cs zs := by
  have := h.s
  exact ⟨(hk.block _ (by omega) hx).trans h.x, (hk.block _ (by omega) hz).trans h.z, h.k.trans hk ht, Nat.le_trans this hk.size⟩
theorem TB.under {Z : Nat → Prop} {w W W' : World} {cs zs : Array Value} (h : TB Z w W cs zs) (hb : Below W.heap.size W W') : TB Z w W' cs zs := by
  have := h.s
  exact ⟨(hb.block _ (by omega)).trans h.x, (hb.block _ (by omega)).trans h.z, h.k.trans (Keeps.of_below (S := Z) hb) (fun _ k => .inl k), Nat.le_trans this hb.size⟩
theorem TB.setz {Z : Nat → Prop} {w W : World} {cs zs : Array Value} (h : TB Z w W cs zs) (j : Nat) (u : Value) : TB Z w (W.setCell ⟨w.heap.size + 1, j, none⟩ u) cs (zs.setIfInBounds j u) :=
  ⟨(Below.heap_setCell _ _ _ _ (by simp)).trans h.x, set_box h.z, h.k.trans (Keeps.set (S := fun k => k = w.heap.size + 1) W rfl u) (fun k hk => .inr (by omega)), by have := h.s; simpa using this⟩
def five (W : World) (q : Nat) (v0 v1 v2 v3 v4 : Value) : World := ((((W.setCell ⟨q, 0, none⟩ v0).setCell ⟨q, 1, none⟩ v1).setCell ⟨q, 2, none⟩ v2).setCell ⟨q, 3, none⟩ v3).setCell ⟨q, 4, none⟩ v4
theorem TB.five {Z : Nat → Prop} {w W : World} {cs zs : Array Value} (h : TB Z w W cs zs) (hz : zs.size = 5) (v0 v1 v2 v3 v4 : Value) : TB Z w (five W (w.heap.size + 1) v0 v1 v2 v3 v4) cs #[v0, v1, v2, v3, v4] := by
  obtain ⟨l⟩ := zs
  match l, hz, h with
  | [z0, z1, z2, z3, z4], _, h =>
    have h0 : TB Z w _ cs #[v0, z1, z2, z3, z4] := h.setz 0 v0
    have h1 : TB Z w _ cs #[v0, v1, z2, z3, z4] := h0.setz 1 v1
    have h2 : TB Z w _ cs #[v0, v1, v2, z3, z4] := h1.setz 2 v2
    have h3 : TB Z w _ cs #[v0, v1, v2, v3, z4] := h2.setz 3 v3
    have h4 : TB Z w _ cs #[v0, v1, v2, v3, v4] := h3.setz 4 v4
    exact h4
theorem five_keeps (W : World) (q : Nat) (v0 v1 v2 v3 v4 : Value) : Keeps (fun k => k = q) W (five W q v0 v1 v2 v3 v4) := by
  have e := fun (W : World) (j : Nat) (u : Value) => Keeps.set (S := fun k => k = q) W (a := ⟨q, j, none⟩) rfl u
  unfold Go.Proofs.Ytdnpbhijjmlecaa.five
  exact (((((e _ 0 v0).trans (e _ 1 v1) (fun _ k => .inl k)).trans (e _ 2 v2) (fun _ k => .inl k)).trans (e _ 3 v3) (fun _ k => .inl k)).trans (e _ 4 v4) (fun _ k => .inl k))
theorem Keeps.base {w w' : World} (h : Keeps (fun _ => False) w w') : Below w.heap.size w w' := ⟨h.os, h.tape, h.output, h.size, fun k hk => h.block k hk (fun h => h)⟩

set_option maxHeartbeats 1600000 in
theorem memE_any {w : World} {q : Nat} {vm vp vo : Value} {x : Gr} (h : GrR w q vm vp vo x) (hf : x.mem.length ≤ 1000) (m : Rc) (la : Option Addr) (ln lc : Nat) :
    Calls Try.prog 73 #[.pointer (some ⟨q, 0, none⟩), recV m (.slice la ln lc)] w fun e w' => e = .returned (.int .i64 (memE x m)) ∧ Below w.heap.size w w' := by
  have hbA : Below w.heap.size w (w.alloc (.cells (recA m (.slice la ln lc)) 32)) := (Below.refl _ _).alloc (Nat.le_refl _) _
  have HH := hid (has_any (h.under hbA) hf m.a)
  have HBA := hid hbA
  have hB := heap_alloc_new w (.cells (recA m (.slice la ln lc)) 32)
  have HC : Hid (∀ V, Below (w.alloc (.cells (recA m (.slice la ln lc)) 32)).heap.size (w.alloc (.cells (recA m (.slice la ln lc)) 32)) V → V.cell? ⟨w.heap.size, 2, none⟩ = some (.int .i64 m.b) ∧ V.cell? ⟨q, 0, none⟩ = some (.int .i64 x.gen)) := fun V hV => ⟨kept_cell hV (cell_blk hB 2 _ rfl), ((h.under hbA).under hV).c0⟩
  have hq := h.lt
  have a1 := cell_blk hB 1 _ rfl
  have HF : Hid (memE x m = if hasM x m.a = false then 17 else if m.b ≠ x.gen then 18 else 0) := rfl
  generalize memE x m = E at *
  unfold recV recA at *
  clear h hbA hB
  cases hM : hasM x m.a with
  | false =>
    rw [hM] at HH HF
    rw [if_pos rfl] at HF
    clear hM
    go_enter Try.func73, Try.ntmps73
    go_wp2_with fail
    refine HH.out.mono ?_
    rintro e w1 ⟨rfl, hb1⟩
    go_wp2_with fail
    go_ret
    exact ⟨ret_int HF.out.symm, HBA.out.trans (hb1.mono HBA.out.size)⟩
  | true =>
    rw [hM] at HH HF
    rw [if_neg (by simp)] at HF
    clear hM
    go_enter Try.func73, Try.ntmps73
    go_wp2_with fail
    refine HH.out.mono ?_
    rintro e w1 ⟨rfl, hb1⟩
    obtain ⟨b2, c0⟩ := HC.out w1 hb1
    have HB1 := hid (HBA.out.trans (hb1.mono HBA.out.size))
    clear hb1 HC a1
    by_cases hg : m.b = x.gen
    · rw [if_neg (by simpa using hg)] at HF
      rw [hg] at b2
      clear hg
      go_wp2_with fail
      go_quiet (fail)
      go_wp2_with fail
      go_ret
      exact ⟨ret_int HF.out.symm, by first | exact HB1.out | exact HB1.out.drew | exact below_drewN HB1.out _⟩
    · rw [if_pos hg] at HF
      generalize x.gen = gg at *
      generalize m.b = bb at *
      go_wp2_with fail
      go_quiet (fail)
      go_wp2_with fail
      go_ret
      exact ⟨ret_int HF.out.symm, by first | exact HB1.out | exact HB1.out.drew | exact below_drewN HB1.out _⟩
end Go.Proofs.Ytdnpbhijjmlecaa
