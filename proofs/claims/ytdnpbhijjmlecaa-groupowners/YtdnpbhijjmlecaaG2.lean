/- A group in memory: its block, the row of members, the list of partitions, the map of offsets; all groups: the map of names. -/
import Derived.Test.YtdnpbhijjmlecaaG1
import Derived.Maps.OwnSet
import Derived.Maps.RangeWalk
import Derived.Maps.Ext
import Derived.Deep.RegionHeld3
import Derived.Deep.AppendLies
namespace Go.Proofs.Ytdnpbhijjmlecaa
open Go.RowKit Go.Maps
open Go.WideMaps (keyOf_string_mk)
set_option maxRecDepth 100000
set_option linter.unusedSimpArgs false
set_option linter.unusedVariables false

theorem law3 : Keyed Try.prog 3 := int_keyed Try.underlying3
theorem law9 : Keyed Try.prog 9 := string_keyed Try.underlying9
theorem zero3 (w : World) : (zeroValue 3).run Try.prog w = .ok (.int .i64 0) w := by kernel_rfl
theorem zero73 (w : World) : (zeroValue 73).run Try.prog w = .ok (.pointer none) w := by kernel_rfl
/-- The offsets' map. -/
def Ro (v : Value) : Option (DataW Value × List MemPlace) :=
  match v with
  | .int .i64 _ => some (.held v, [])
  | _ => none
theorem Ro_inv {v : Value} {y : DataW Value × List MemPlace} (h : Ro v = some y) : y = (.held v, []) := by
  unfold Ro at h
  split at h
  · simpa using h.symm
  · cases h
def omap (o : List (Int × Int)) : DataW Value := .map (o.map fun p => (Lit.int .i64 p.1, .held (.int .i64 p.2)))
theorem omap_size (o : List (Int × Int)) : Maps.size (omap o) = o.length := by simp [omap, Maps.size]
theorem sk (a b : Int) : (Lit.int .i64 a).sameKey (.int .i64 b) = (a == b) := by
  show (decide _ : Bool) = _
  rw [Bool.eq_iff_iff]; simp [Lit.sameKey]
theorem find_omap (n : Int) : ∀ o : List (Int × Int),
    (o.map fun p => (Lit.int .i64 p.1, (DataW.held (.int .i64 p.2) : DataW Value))).find? (fun p => p.1.sameKey (.int .i64 n)) = (o.find? (fun p => p.1 == n)).map fun p => (Lit.int .i64 p.1, .held (.int .i64 p.2))
  | [] => rfl
  | p :: r => by
    simp only [List.map_cons, List.find?_cons, sk]
    cases p.1 == n
    · exact find_omap n r
    · rfl
theorem omap_atKey (o : List (Int × Int)) (n : Int) : (omap o).atKey (.int .i64 n) (.held (.int .i64 0)) = .held (.int .i64 (valO o n)) := by
  unfold DataW.atKey omap
  simp only [find_omap]
  unfold valO getO
  cases o.find? (fun p => p.1 == n) <;> rfl
theorem omap_has (n : Int) (o : List (Int × Int)) : Maps.has (omap o) (.int .i64 n) = (getO o n).isSome := by
  unfold getO omap Maps.has
  simp only [Option.isSome_map]
  induction o with
  | nil => rfl
  | cons p r ih =>
    simp only [List.map_cons, List.any_cons, sk, List.find?_cons]
    cases p.1 == n
    · simpa only [Bool.false_or] using ih
    · rfl
theorem insert_omap (x : Int × Int) : ∀ o : List (Int × Int),
    DataW.insert (Lit.int .i64 x.1, (DataW.held (.int .i64 x.2) : DataW Value)) (o.map fun p => (Lit.int .i64 p.1, .held (.int .i64 p.2))) = (insO x o).map fun p => (Lit.int .i64 p.1, .held (.int .i64 p.2))
  | [] => rfl
  | p :: r => by
    have ih := insert_omap x r
    by_cases hb : x.1 < p.1
    · simp [List.map_cons, DataW.insert, insO, Lit.before, hb]
    · simp [List.map_cons, DataW.insert, insO, Lit.before, hb, ih]
theorem filter_omap (n : Int) : ∀ o : List (Int × Int),
    (o.map fun p => (Lit.int .i64 p.1, (DataW.held (.int .i64 p.2) : DataW Value))).filter (fun p => !p.1.sameKey (.int .i64 n)) = (delO o n).map fun p => (Lit.int .i64 p.1, .held (.int .i64 p.2))
  | [] => rfl
  | p :: r => by
    have ih := filter_omap n r
    unfold delO at ih ⊢
    simp only [List.map_cons, List.filter_cons, sk, ih]
    split <;> simp
theorem omap_put (o : List (Int × Int)) (n v : Int) : (omap o).put (.int .i64 n) (.held (.int .i64 v)) = omap (putO o n v) := by
  show DataW.map (DataW.insert (.int .i64 n, .held (.int .i64 v)) ((o.map fun p => (Lit.int .i64 p.1, (DataW.held (.int .i64 p.2) : DataW Value))).filter (fun p => !p.1.sameKey (.int .i64 n)))) = _
  rw [filter_omap, insert_omap (n, v)]
  rfl
theorem tightO {w : World} {b m : Nat} {D : DataW Value} (h : w.ownsMap Try.prog 3 Ro b m D) : w.ownsMap Try.prog 3 Ro b (Maps.size D) D := by
  obtain ⟨es, clock, hm, F, hs, rfl⟩ := h
  exact ⟨es, clock, hm, F, by simp [Maps.size, length_sorted], rfl⟩
theorem omap_look_ok {w : World} {b : Nat} {o : List (Int × Int)} {m : Nat} (h : w.ownsMap Try.prog 3 Ro b m (omap o)) (n : Int) (hn : I64 n) :
    (Instr.lookup 70 (.map (some b)) (.int .i64 n) true).run Try.prog w = .ok (.tuple #[.int .i64 (valO o n), .bool (getO o n).isSome]) w := by
  have hkey := keyOf_int_mk Try.underlying3 (wf_of hn)
  obtain ⟨v, ps, hrun, hv⟩ := World.ownsMap.look_ok h law3 Try.underlying70 (zero3 w) (zd := .held (.int .i64 0)) (zp := []) rfl hkey
  rw [omap_atKey] at hv
  have hv := Ro_inv hv
  simp only [Prod.mk.injEq, DataW.held.injEq] at hv
  rw [hrun, ← hv.1, omap_has]

/-- The members' row. -/
def flatM : List Mb → List Value
  | [] => []
  | m :: r => [.int .i64 m.id, .int .i64 m.num] ++ flatM r
theorem flatM_length : ∀ l : List Mb, (flatM l).length = l.length * 2
  | [] => rfl
  | m :: r => by simp [flatM, flatM_length r]; omega
theorem flatM_append : ∀ l m : List Mb, flatM (l ++ m) = flatM l ++ flatM m
  | [], m => rfl
  | x :: r, m => by simp [flatM, flatM_append r m]
theorem flatM_get : ∀ (l : List Mb) (i : Nat) (x : Mb), l[i]? = some x → (flatM l)[i * 2]? = some (.int .i64 x.id) ∧ (flatM l)[i * 2 + 1]? = some (.int .i64 x.num)
  | [], i, m, h => by simp at h
  | y :: r, 0, m, h => by simp at h; subst h; simp [flatM]
  | y :: r, i + 1, m, h => by
    have ih := flatM_get r i m (by simpa using h)
    have e : ∀ j, (flatM (y :: r))[(i + 1) * 2 + j]? = (flatM r)[i * 2 + j]? := fun j => by
      have e1 : (i + 1) * 2 + j = 2 + (i * 2 + j) := by omega
      rw [e1]
      show ([_, _] ++ flatM r)[2 + (i * 2 + j)]? = _
      rw [List.getElem?_append_right (by simp)]
      congr 1
      simp
    refine ⟨?_, ?_⟩
    · have := e 0; simp only [Nat.add_zero] at this; rw [this]; exact ih.1
    · rw [e 1]; exact ih.2

/-- What a call may turn: the blocks of S; all else that was there is as it was. -/
structure Keeps (S : Nat → Prop) (w w' : World) : Prop where
  os : w'.os = w.os
  tape : w'.tape = w.tape
  output : w'.output = w.output
  size : w.heap.size ≤ w'.heap.size
  block : ∀ k, k < w.heap.size → ¬ S k → w'.heap[k]? = w.heap[k]?
theorem Keeps.refl (S : Nat → Prop) (w : World) : Keeps S w w := ⟨rfl, rfl, rfl, Nat.le_refl _, fun _ _ _ => rfl⟩
theorem Keeps.of_below {S : Nat → Prop} {w w1 : World} (h : Below w.heap.size w w1) : Keeps S w w1 := ⟨h.os, h.tape, h.output, h.size, fun k hk _ => h.block k hk⟩
theorem Keeps.of_grown {S : Nat → Prop} {w w1 : World} {r : Option Nat} (h : w.grownBy w1 r) (hr : ∀ k, r = some k → S k) : Keeps S w w1 := ⟨h.os, h.tape, h.output, h.size, fun k hk hS => h.block k hk (fun e => hS (hr k e.symm))⟩
theorem Keeps.trans {S T : Nat → Prop} {w w1 w2 : World} (h : Keeps S w w1) (k : Keeps T w1 w2) (hT : ∀ x, T x → S x ∨ w.heap.size ≤ x) : Keeps S w w2 :=
  ⟨k.os.trans h.os, k.tape.trans h.tape, k.output.trans h.output, Nat.le_trans h.size k.size, fun x hx hS => (k.block x (Nat.lt_of_lt_of_le hx h.size) (fun ht => by rcases hT x ht with h1 | h1; exact hS h1; omega)).trans (h.block x hx hS)⟩
theorem Keeps.mono {S T : Nat → Prop} {w w1 : World} (h : Keeps S w w1) (hT : ∀ x, S x → T x) : Keeps T w w1 := ⟨h.os, h.tape, h.output, h.size, fun k hk hS => h.block k hk (fun e => hS (hT k e))⟩
theorem Keeps.below {S : Nat → Prop} {w w1 : World} {B : Nat} (h : Keeps S w w1) (hB : B ≤ w.heap.size) (hS : ∀ k, S k → B ≤ k) : Below B w w1 :=
  ⟨h.os, h.tape, h.output, h.size, fun k hk => h.block k (Nat.lt_of_lt_of_le hk hB) (fun hs => by have := hS k hs; omega)⟩
theorem Keeps.set {S : Nat → Prop} (w : World) {a : Addr} (ha : S a.block) (u : Value) : Keeps S w (w.setCell a u) :=
  ⟨rfl, rfl, rfl, by simp, fun k hk hS => Below.heap_setCell _ _ _ _ (fun e => hS (by subst e; exact ha))⟩

theorem row_lt {w : World} {e s : Nat} {v : Value} {n : Nat} {xs : List Value} (h : w.ownsRow 0 e s v n xs) {k : Nat} (hk : v.ownBlock = some k) : k < w.heap.size := (World.ownsRow.lt h k hk).2
theorem row_blk {w : World} {e s : Nat} {v : Value} {n : Nat} {xs : List Value} (h : w.ownsRow 0 e s v n xs) {k : Nat} (hk : v.ownBlock = some k) : ∃ cur, w.heap[k]? = some (.cells cur e (0, 0)) := by
  obtain ⟨h1, ⟨rfl, _⟩ | ⟨g, cap, cur, rfl, hB, hg, r⟩⟩ := h
  · cases hk
  · cases hk; exact ⟨cur, hg⟩
theorem row_kept {w w1 : World} {e s : Nat} {v : Value} {n : Nat} {xs : List Value} (h : w.ownsRow 0 e s v n xs) (hb : ∀ k, v.ownBlock = some k → w1.heap[k]? = w.heap[k]?) : w1.ownsRow 0 e s v n xs := by
  obtain ⟨h1, h2⟩ := h
  rcases h2 with h2 | ⟨g, cap, cur, rfl, hB, hg, r⟩
  · exact ⟨h1, .inl h2⟩
  · exact ⟨h1, .inr ⟨g, cap, cur, rfl, hB, (hb g rfl).trans hg, r⟩⟩
theorem row_shape {w : World} {e s : Nat} {v : Value} {n : Nat} {xs : List Value} (h : w.ownsRow 0 e s v n xs) : ∃ oa cap, v = .slice oa n cap ∧ n ≤ cap ∧ cap ≤ maxLen ∧ (oa = none → cap = 0) ∧ (0 < n → ∃ g, oa = some ⟨g, 0, none⟩) := by
  obtain ⟨_, ⟨e, h0⟩ | ⟨g, cap, cur, e, hb, hg, hn, hc, hs, ht⟩⟩ := h
  · exact ⟨none, 0, by rw [e, h0], by omega, Nat.zero_le _, fun _ => rfl, fun h => by omega⟩
  · exact ⟨some ⟨g, 0, none⟩, cap, e, hn, hc, (fun h => by cases h), fun _ => ⟨g, rfl⟩⟩
theorem row_base {B : Nat} {w : World} {e s : Nat} {v : Value} {n : Nat} {xs : List Value} (h : w.ownsRow B e s v n xs) : w.ownsRow 0 e s v n xs := by
  obtain ⟨h1, h2 | ⟨g, cap, cur, e1, hB, r⟩⟩ := h
  · exact ⟨h1, .inl h2⟩
  · exact ⟨h1, .inr ⟨g, cap, cur, e1, Nat.zero_le _, r⟩⟩
theorem frz_blk {w : World} {q : Nat} {cs : Array Value} {T : TypeId} (h : w.heap[q]? = some (.cells cs T)) (j : Nat) : w.frozen? ⟨q, j, none⟩ = false := by
  simp [World.frozen?, h]
theorem set_box {w : World} {q j : Nat} {cs : Array Value} {T : TypeId} {v : Value} (h : w.heap[q]? = some (.cells cs T)) : (w.setCell ⟨q, j, none⟩ v).heap[q]? = some (.cells (cs.setIfInBounds j v) T) :=
  heap_setCell_same w q j cs T v h
theorem IL.kept {w w' : World} {v : Value} {l : List Int} {X : Nat → Prop} (h : IL w v l) (hX : In X v l) (hb : ∀ k, X k → w'.heap[k]? = w.heap[k]?) (hs : w.heap.size ≤ w'.heap.size) : IL w' v l := by
  obtain ⟨⟨a, cap, rfl, h1, h2, h3, h4⟩, h5, h6⟩ := h
  refine ⟨⟨a, cap, rfl, h1, h2, h3, fun hn => ?_⟩, h5, h6⟩
  obtain ⟨b, off, rfl, e2, e3⟩ := h4 hn
  exact ⟨b, off, rfl, Nat.lt_of_lt_of_le e2 hs, fun i hi => (World.cell?_of_block (a := ⟨b, off + i, none⟩) (hb b (hX hn b off _ _ rfl))).trans (e3 i hi)⟩

/-- A group that is read: also the group of nothing. -/
structure GrR (w : World) (q : Nat) (vm vp vo : Value) (x : Gr) : Prop where
  cells : w.heap[q]? = some (.cells #[.int .i64 x.gen, .int .i64 x.ever, vm, vp, vo] 72 (0, 0))
  mem : w.ownsRow 0 84 2 vm x.mem.length (flatM x.mem)
  parts : IL w vp x.parts
  look : ∀ W, Below w.heap.size w W → ∀ n, I64 n → (Instr.lookup 70 vo (.int .i64 n) true).run Try.prog W = .ok (.tuple #[.int .i64 (valO x.offs n), .bool (getO x.offs n).isSome]) W
theorem GrR.under {w w1 : World} {q : Nat} {vm vp vo : Value} {x : Gr} (h : GrR w q vm vp vo x) (hb : Below w.heap.size w w1) : GrR w1 q vm vp vo x :=
  ⟨(hb.block q (Array.getElem?_eq_some_iff.1 h.cells).1).trans h.cells, row_kept h.mem (fun k hk => hb.block k (row_lt h.mem hk)), h.parts.under hb, fun W hW n hn => h.look W (hb.trans (hW.mono hb.size)) n hn⟩
section
variable {w : World} {q : Nat} {vm vp vo : Value} {x : Gr}
theorem GrR.lt (h : GrR w q vm vp vo x) : q < w.heap.size := (Array.getElem?_eq_some_iff.1 h.cells).1
theorem GrR.c0 (h : GrR w q vm vp vo x) : w.cell? ⟨q, 0, none⟩ = some (.int .i64 x.gen) := cell_blk h.cells 0 _ rfl
theorem GrR.c1 (h : GrR w q vm vp vo x) : w.cell? ⟨q, 1, none⟩ = some (.int .i64 x.ever) := cell_blk h.cells 1 _ rfl
theorem GrR.c2 (h : GrR w q vm vp vo x) : w.cell? ⟨q, 2, none⟩ = some vm := cell_blk h.cells 2 _ rfl
theorem GrR.c3 (h : GrR w q vm vp vo x) : w.cell? ⟨q, 3, none⟩ = some vp := cell_blk h.cells 3 _ rfl
theorem GrR.c4 (h : GrR w q vm vp vo x) : w.cell? ⟨q, 4, none⟩ = some vo := cell_blk h.cells 4 _ rfl
theorem GrR.fz (h : GrR w q vm vp vo x) (j : Nat) : w.frozen? ⟨q, j, none⟩ = false := frz_blk h.cells j
end
/-- The cells of a member. -/
theorem row_mem {w : World} {g n cap : Nat} {ms : List Mb} (h : w.ownsRow 0 84 2 (.slice (some ⟨g, 0, none⟩) n cap) ms.length (flatM ms)) (i : Nat) (x : Mb) (hx : ms[i]? = some x) : w.cell? ⟨g, i * 2, none⟩ = some (.int .i64 x.id) ∧ w.cell? ⟨g, i * 2 + 1, none⟩ = some (.int .i64 x.num) := by
  have hc := fun j u hu => World.ownsRow.cells h (g := g) rfl j u hu
  obtain ⟨h0, h1⟩ := flatM_get ms i x hx
  have k0 := hc _ _ h0
  have k1 := hc _ _ h1
  rw [add_at, Nat.zero_add] at k0 k1
  exact ⟨k0, k1⟩

/-- The blocks of a group that calls turn. -/
def Own (q : Nat) (vm : Value) (ob k : Nat) : Prop := k = q ∨ k = ob ∨ vm.ownBlock = some k
structure GrC (w : World) (q : Nat) (vm vp : Value) (ob : Nat) (x : Gr) : Prop where
  cells : w.heap[q]? = some (.cells #[.int .i64 x.gen, .int .i64 x.ever, vm, vp, .map (some ob)] 72 (0, 0))
  mem : w.ownsRow 0 84 2 vm x.mem.length (flatM x.mem)
  parts : IL w vp x.parts
  offs : w.ownsMap Try.prog 3 Ro ob x.offs.length (omap x.offs)
  apart : In (fun k => ¬ Own q vm ob k) vp x.parts
section
variable {w : World} {q ob : Nat} {vm vp : Value} {x : Gr}
theorem GrC.lt (h : GrC w q vm vp ob x) {k : Nat} (hk : Own q vm ob k) : k < w.heap.size := by
  rcases hk with rfl | rfl | hk
  · exact (Array.getElem?_eq_some_iff.1 h.cells).1
  · exact h.offs.lt
  · exact row_lt h.mem hk
theorem GrC.kept (h : GrC w q vm vp ob x) {Z : Nat → Prop} {w1 : World} (ho : ∀ k, Own q vm ob k → Z k) (hl : In Z vp x.parts) (hz : ∀ k, Z k → w1.heap[k]? = w.heap[k]?) (hs : w.heap.size ≤ w1.heap.size) : GrC w1 q vm vp ob x := by
  refine ⟨(hz q (ho _ (.inl rfl))).trans h.cells, row_kept h.mem (fun k hk => hz k (ho k (.inr (.inr hk)))), h.parts.kept hl hz hs, ?_, h.apart⟩
  obtain ⟨es, clock, hm, r⟩ := h.offs
  exact ⟨es, clock, (hz ob (ho _ (.inr (.inl rfl)))).trans hm, r⟩
theorem GrC.under (h : GrC w q vm vp ob x) {w1 : World} (hb : Below w.heap.size w w1) : GrC w1 q vm vp ob x := by
  refine ⟨(hb.block q (h.lt (.inl rfl))).trans h.cells, row_kept h.mem (fun k hk => hb.block k (row_lt h.mem hk)), h.parts.under hb, ?_, h.apart⟩
  obtain ⟨es, clock, hm, r⟩ := h.offs
  exact ⟨es, clock, (hb.block ob (h.lt (.inr (.inl rfl)))).trans hm, r⟩
theorem GrC.read (h : GrC w q vm vp ob x) : GrR w q vm vp (.map (some ob)) x := ⟨h.cells, h.mem, h.parts, fun W hW n hn => omap_look_ok (h.under hW).offs n hn⟩
theorem GrC.ne_qo (h : GrC w q vm vp ob x) : q ≠ ob := fun e => by
  obtain ⟨es, clock, hm, r⟩ := h.offs
  rw [← e, h.cells] at hm; cases hm
theorem GrC.ne_qm (h : GrC w q vm vp ob x) : vm.ownBlock ≠ some q := fun e => by
  obtain ⟨cur, hc⟩ := row_blk h.mem e; rw [h.cells] at hc; cases hc
theorem GrC.ne_om (h : GrC w q vm vp ob x) : vm.ownBlock ≠ some ob := fun e => by
  obtain ⟨es, clock, hm, r⟩ := h.offs
  obtain ⟨cur, hc⟩ := row_blk h.mem e; rw [hm] at hc; cases hc
end
/-- A group all of whose blocks are among Z. -/
def GrM (w : World) (Z : Nat → Prop) (q : Nat) (x : Gr) : Prop := ∃ vm vp ob, GrC w q vm vp ob x ∧ (∀ k, Own q vm ob k → Z k) ∧ In Z vp x.parts ∧ ∀ k, Z k → k < w.heap.size
def GAfter (Z : Nat → Prop) (w w' : World) (q : Nat) (x : Gr) : Prop := ∃ Z', GrM w' Z' q x ∧ (∀ k, Z' k → Z k ∨ w.heap.size ≤ k) ∧ Keeps Z w w'
theorem GrM.under {w w1 : World} {Z : Nat → Prop} {q : Nat} {x : Gr} (h : GrM w Z q x) (hb : Below w.heap.size w w1) : GrM w1 Z q x := by
  obtain ⟨vm, vp, ob, h1, h2, h3, h4⟩ := h
  exact ⟨vm, vp, ob, h1.under hb, h2, h3, fun k hk => Nat.lt_of_lt_of_le (h4 k hk) hb.size⟩
theorem GrM.kept {w w1 : World} {Z : Nat → Prop} {q : Nat} {x : Gr} (h : GrM w Z q x) (hz : ∀ k, Z k → w1.heap[k]? = w.heap[k]?) (hs : w.heap.size ≤ w1.heap.size) : GrM w1 Z q x := by
  obtain ⟨vm, vp, ob, h1, h2, h3, h4⟩ := h
  exact ⟨vm, vp, ob, h1.kept h2 h3 hz hs, h2, h3, fun k hk => Nat.lt_of_lt_of_le (h4 k hk) hs⟩
theorem GrM.after {w : World} {Z q x} (h : GrM w Z q x) {w1 : World} (hb : Below w.heap.size w w1) : GAfter Z w w1 q x := ⟨Z, h.under hb, fun k hk => .inl hk, Keeps.of_below hb⟩
theorem GrM.read {w : World} {Z q x} (h : GrM w Z q x) : ∃ vm vp vo, GrR w q vm vp vo x := by
  obtain ⟨vm, vp, ob, h1, _⟩ := h
  exact ⟨vm, vp, _, h1.read⟩
theorem GAfter.trans {Z Z1 : Nat → Prop} {w w1 w2 : World} {q : Nat} {x : Gr} (hz : ∀ k, Z1 k → Z k ∨ w.heap.size ≤ k) (hk : Keeps Z w w1) (h : GAfter Z1 w1 w2 q x) : GAfter Z w w2 q x := by
  obtain ⟨Z2, a1, a2, a3⟩ := h
  refine ⟨Z2, a1, fun k hk2 => ?_, hk.trans a3 hz⟩
  rcases a2 k hk2 with h1 | h1
  · exact hz k h1
  · exact .inr (Nat.le_trans hk.size h1)
theorem GrC.after {w w1 : World} {Z : Nat → Prop} {q ob : Nat} {vm vp : Value} {x : Gr} (h : GrC w1 q vm vp ob x) (ho : ∀ k, Own q vm ob k → Z k ∨ w.heap.size ≤ k) (hl : In (fun k => Z k ∨ w.heap.size ≤ k) vp x.parts) (hk : Keeps Z w w1) : GAfter Z w w1 q x :=
  ⟨fun k => (Z k ∨ w.heap.size ≤ k) ∧ k < w1.heap.size, ⟨vm, vp, ob, h, fun k hk => ⟨ho k hk, h.lt hk⟩, fun hn b off n c e => ⟨hl hn b off n c e, h.parts.old hn b off n c e⟩, fun k hk => hk.2⟩, fun k hk => hk.1, hk⟩
end Go.Proofs.Ytdnpbhijjmlecaa
