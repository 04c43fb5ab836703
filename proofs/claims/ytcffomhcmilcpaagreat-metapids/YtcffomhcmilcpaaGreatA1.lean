/- An image in memory: its block, the map of brokers, the rows of topics, of partitions and of epochs, the partitions' lists. -/
import Derived.Test.YtcffomhcmilcpaaGreatA0
import Derived.Test.YtcffomhcmilcpaaGreatM9c
import Derived.Maps.OwnSet
import Derived.Maps.RangeWalk
import Derived.Maps.Ext
import Derived.Deep.RegionHeld3
import Derived.Deep.AppendLies
namespace Go.Proofs.YtcffomhcmilcpaaGreat
open Go.RowKit Go.Maps
set_option maxRecDepth 100000
set_option linter.unusedSimpArgs false
set_option linter.unusedVariables false

theorem wf_of {k : Int} (h : I64 k) : (Lit.int .i64 k).wf = true := WalkArith.wf_i64 h
theorem law3 : Keyed Tryz.prog 3 := int_keyed Tryz.underlying3
def Br.val (b : Br) : Value := .agg #[.int .i64 b.life, .bool b.up]
theorem zero93 (w : World) : (zeroValue 93).run Tryz.prog w = .ok zeroB.val w := by kernel_rfl
def Rh (v : Value) : Option (DataW Value × List MemPlace) :=
  match v with
  | .agg cs => (match cs.toList with
    | [.int .i64 _, .bool _] => some (.held v, [])
    | _ => none)
  | _ => none
theorem Rh_mk (b : Br) : Rh b.val = some (.held b.val, []) := rfl
theorem Rh_inv {v : Value} {y : DataW Value × List MemPlace} (h : Rh v = some y) : (∃ b : Br, v = b.val) ∧ y = (.held v, []) := by
  unfold Rh at h
  split at h
  · rename_i cs
    split at h
    · rename_i l u e
      refine ⟨⟨⟨l, u⟩, ?_⟩, by simpa using h.symm⟩
      unfold Br.val
      rw [← Array.toArray_toList (xs := cs), e]
    · cases h
  · cases h
def dmap (bs : BM) : DataW Value := .map (bs.map fun p => (Lit.int .i64 p.1, .held p.2.val))
theorem dmap_size (bs : BM) : Maps.size (dmap bs) = bs.length := by simp [dmap, Maps.size]
theorem sk (a b : Int) : (Lit.int .i64 a).sameKey (.int .i64 b) = (a == b) := by
  show (decide _ : Bool) = _
  rw [Bool.eq_iff_iff]; simp [Lit.sameKey]
theorem find_dmap (n : Int) : ∀ bs : BM,
    (bs.map fun p => (Lit.int .i64 p.1, (DataW.held p.2.val : DataW Value))).find? (fun p => p.1.sameKey (.int .i64 n)) = (bs.find? (fun p => p.1 == n)).map fun p => (Lit.int .i64 p.1, .held p.2.val)
  | [] => rfl
  | p :: r => by
    simp only [List.map_cons, List.find?_cons, sk]
    cases p.1 == n
    · exact find_dmap n r
    · rfl
theorem dmap_atKey (bs : BM) (n : Int) : (dmap bs).atKey (.int .i64 n) (.held zeroB.val) = .held (valB bs n).val := by
  unfold DataW.atKey dmap
  simp only [find_dmap]
  unfold valB getB
  cases bs.find? (fun p => p.1 == n) <;> rfl
theorem dmap_has (n : Int) (bs : BM) : Maps.has (dmap bs) (.int .i64 n) = (getB bs n).isSome := by
  unfold getB dmap Maps.has
  simp only [Option.isSome_map]
  induction bs with
  | nil => rfl
  | cons p r ih =>
    simp only [List.map_cons, List.any_cons, sk, List.find?_cons]
    cases p.1 == n
    · simpa only [Bool.false_or] using ih
    · rfl
theorem insert_dmap (x : Int × Br) : ∀ bs : BM,
    DataW.insert (Lit.int .i64 x.1, (DataW.held x.2.val : DataW Value)) (bs.map fun p => (Lit.int .i64 p.1, .held p.2.val)) = (insB x bs).map fun p => (Lit.int .i64 p.1, .held p.2.val)
  | [] => rfl
  | p :: r => by
    have ih := insert_dmap x r
    by_cases hb : x.1 < p.1
    · simp [List.map_cons, DataW.insert, insB, Lit.before, hb]
    · simp [List.map_cons, DataW.insert, insB, Lit.before, hb, ih]
theorem filter_dmap (n : Int) : ∀ bs : BM,
    (bs.map fun p => (Lit.int .i64 p.1, (DataW.held p.2.val : DataW Value))).filter (fun p => !p.1.sameKey (.int .i64 n)) = (delB bs n).map fun p => (Lit.int .i64 p.1, .held p.2.val)
  | [] => rfl
  | p :: r => by
    have ih := filter_dmap n r
    unfold delB at ih ⊢
    simp only [List.map_cons, List.filter_cons, sk, ih]
    split <;> simp
theorem dmap_put (bs : BM) (n : Int) (f : Br) : (dmap bs).put (.int .i64 n) (.held f.val) = dmap (putB bs n f) := by
  show DataW.map (DataW.insert (.int .i64 n, .held f.val) ((bs.map fun p => (Lit.int .i64 p.1, (DataW.held p.2.val : DataW Value))).filter (fun p => !p.1.sameKey (.int .i64 n)))) = _
  rw [filter_dmap, insert_dmap (n, f)]
  rfl
theorem tight {w : World} {b m : Nat} {D : DataW Value} (h : w.ownsMap Tryz.prog 3 Rh b m D) : w.ownsMap Tryz.prog 3 Rh b (Maps.size D) D := by
  obtain ⟨es, clock, hm, F, hs, rfl⟩ := h
  exact ⟨es, clock, hm, F, by simp [Maps.size, length_sorted], rfl⟩

def flatT : List Tp → List Value
  | [] => []
  | x :: r => [.string x.name, .int .i64 x.first, .int .i64 x.count] ++ flatT r
def pc (v : Value) : List Value := match v with | .agg cs => cs.toList | _ => []
def flatP : List (Value × Pt) → List Value
  | [] => []
  | x :: r => pc x.1 ++ flatP r
def intsV (l : List Int) : List Value := l.map fun x => .int .i64 x
theorem flatT_length : ∀ l : List Tp, (flatT l).length = l.length * 3
  | [] => rfl
  | m :: r => by simp [flatT, flatT_length r]; omega
theorem flatT_append : ∀ l m : List Tp, flatT (l ++ m) = flatT l ++ flatT m
  | [], m => rfl
  | x :: r, m => by simp [flatT, flatT_append r m]
theorem flatP_append : ∀ l m : List (Value × Pt), flatP (l ++ m) = flatP l ++ flatP m
  | [], m => rfl
  | x :: r, m => by simp [flatP, flatP_append r m]
theorem flatP_length : ∀ l : List (Value × Pt), (∀ x ∈ l, (pc x.1).length = 9) → (flatP l).length = l.length * 9
  | [], _ => rfl
  | m :: r, h => by
    have h1 := h m (by simp)
    have h2 := flatP_length r (fun x hx => h x (by simp [hx]))
    simp only [flatP, List.length_append, List.length_cons]
    omega
theorem flatP_get : ∀ (l : List (Value × Pt)) (i t : Nat), (∀ x ∈ l, (pc x.1).length = 9) → t < 9 → (flatP l)[i * 9 + t]? = (l[i]?).bind fun x => (pc x.1)[t]?
  | [], i, t, _, _ => by simp [flatP]
  | x :: r, 0, t, h, ht => by
    have h1 := h x (by simp)
    simp only [flatP, Nat.zero_mul, Nat.zero_add, List.getElem?_cons_zero, Option.bind_some]
    exact List.getElem?_append_left (by omega)
  | x :: r, i + 1, t, h, ht => by
    have h1 := h x (by simp)
    have e1 : (i + 1) * 9 + t = 9 + (i * 9 + t) := by omega
    rw [e1]
    simp only [flatP, List.getElem?_cons_succ]
    rw [List.getElem?_append_right (by omega), h1]
    rw [show 9 + (i * 9 + t) - 9 = i * 9 + t by omega]
    exact flatP_get r i t (fun x hx => h x (by simp [hx])) ht
theorem flatT_get : ∀ (l : List Tp) (i : Nat) (x : Tp), l[i]? = some x → (flatT l)[i * 3]? = some (.string x.name) ∧ (flatT l)[i * 3 + 1]? = some (.int .i64 x.first) ∧ (flatT l)[i * 3 + 2]? = some (.int .i64 x.count)
  | [], i, m, h => by simp at h
  | y :: r, 0, m, h => by simp at h; subst h; simp [flatT]
  | y :: r, i + 1, m, h => by
    have ih := flatT_get r i m (by simpa using h)
    have e : ∀ j, (flatT (y :: r))[(i + 1) * 3 + j]? = (flatT r)[i * 3 + j]? := fun j => by
      have e1 : (i + 1) * 3 + j = 3 + (i * 3 + j) := by omega
      rw [e1]
      show ([_, _, _] ++ flatT r)[3 + (i * 3 + j)]? = _
      rw [List.getElem?_append_right (by simp)]
      congr 1
      simp
    refine ⟨?_, ?_, ?_⟩
    · have := e 0; simp only [Nat.add_zero] at this; rw [this]; exact ih.1
    · rw [e 1]; exact ih.2.1
    · rw [e 2]; exact ih.2.2
theorem pc_part {w : World} {v : Value} {p : Pt} (h : PartM w v p) : (pc v).length = 9 := by
  obtain ⟨a, b, c, d, rfl, _⟩ := h
  rfl

/-- What a call may turn: the blocks of S; all else that was there is as it was. -/
structure Keeps (S : Nat → Prop) (w w' : World) : Prop where
  os : w'.os = w.os
  tape : w'.tape = w.tape
  output : w'.output = w.output
  size : w.heap.size ≤ w'.heap.size
  block : ∀ k, k < w.heap.size → ¬ S k → w'.heap[k]? = w.heap[k]?
theorem Keeps.refl (S : Nat → Prop) (w : World) : Keeps S w w := ⟨rfl, rfl, rfl, Nat.le_refl _, fun _ _ _ => rfl⟩
theorem Keeps.of_below {S : Nat → Prop} {w w1 : World} (h : Below w.heap.size w w1) : Keeps S w w1 := ⟨h.os, h.tape, h.output, h.size, fun k hk _ => h.block k hk⟩
theorem Keeps.of_grown {S : Nat → Prop} {w w1 : World} {r : Option Nat} (h : w.grownBy w1 r) (hr : ∀ k, r = some k → S k) : Keeps S w w1 := ⟨h.os, h.tape, h.output, h.size, fun k hk hS => h.block k hk (fun e => hS (hr k e.symm))⟩
theorem Keeps.trans {S T : Nat → Prop} {w w1 w2 : World} (h : Keeps S w w1) (k : Keeps T w1 w2) (hT : ∀ x, T x → S x ∨ w.heap.size ≤ x) : Keeps S w w2 :=
  ⟨k.os.trans h.os, k.tape.trans h.tape, k.output.trans h.output, Nat.le_trans h.size k.size, fun x hx hS => (k.block x (Nat.lt_of_lt_of_le hx h.size) (fun ht => by rcases hT x ht with h1 | h1; exact hS h1; omega)).trans (h.block x hx hS)⟩
theorem Keeps.mono {S T : Nat → Prop} {w w1 : World} (h : Keeps S w w1) (hT : ∀ x, S x → T x) : Keeps T w w1 := ⟨h.os, h.tape, h.output, h.size, fun k hk hS => h.block k hk (fun e => hS (hT k e))⟩
theorem Keeps.below {S : Nat → Prop} {w w1 : World} {B : Nat} (h : Keeps S w w1) (hB : B ≤ w.heap.size) (hS : ∀ k, S k → B ≤ k) : Below B w w1 :=
  ⟨h.os, h.tape, h.output, h.size, fun k hk => h.block k (Nat.lt_of_lt_of_le hk hB) (fun hs => by have := hS k hs; omega)⟩
theorem Keeps.set {S : Nat → Prop} (w : World) {a : Addr} (ha : S a.block) (u : Value) : Keeps S w (w.setCell a u) :=
  ⟨rfl, rfl, rfl, by simp, fun k hk hS => Below.heap_setCell _ _ _ _ (fun e => hS (by subst e; exact ha))⟩

/-- The blocks that an image's calls may turn. -/
def Own (q b : Nat) (vt vp ve : Value) (k : Nat) : Prop := k = q ∨ k = b ∨ vt.ownBlock = some k ∨ vp.ownBlock = some k ∨ ve.ownBlock = some k
structure ImC (w : World) (L : Nat → Prop) (q b : Nat) (vt vp ve : Value) (ps : List (Value × Pt)) (I : Im) : Prop where
  cells : w.heap[q]? = some (.cells #[.int .i64 I.applied, .map (some b), vt, vp, ve] 70 (0, 0))
  bmap : w.ownsMap Tryz.prog 3 Rh b I.brs.length (dmap I.brs)
  tops : w.ownsRow 0 96 3 vt I.tops.length (flatT I.tops)
  parts : w.ownsRow 0 54 9 vp ps.length (flatP ps)
  eps : w.ownsRow 0 3 1 ve I.eps.length (intsV I.eps)
  each : ∀ x ∈ ps, PartM w x.1 x.2 ∧ InP L x.1 x.2
  abs : I.parts = ps.map (·.2)
  lists : ∀ k, L k → k < w.heap.size ∧ ¬ Own q b vt vp ve k
  ok : ImOk I
theorem row_lt {w : World} {e s : Nat} {v : Value} {n : Nat} {xs : List Value} (h : w.ownsRow 0 e s v n xs) {k : Nat} (hk : v.ownBlock = some k) : k < w.heap.size := (World.ownsRow.lt h k hk).2
theorem row_blk {w : World} {e s : Nat} {v : Value} {n : Nat} {xs : List Value} (h : w.ownsRow 0 e s v n xs) {k : Nat} (hk : v.ownBlock = some k) : ∃ cur, w.heap[k]? = some (.cells cur e (0, 0)) := by
  obtain ⟨h1, ⟨rfl, _⟩ | ⟨g, cap, cur, rfl, hB, hg, r⟩⟩ := h
  · cases hk
  · cases hk; exact ⟨cur, hg⟩
theorem row_kept {w w1 : World} {e s : Nat} {v : Value} {n : Nat} {xs : List Value} (h : w.ownsRow 0 e s v n xs) (hb : ∀ k, v.ownBlock = some k → w1.heap[k]? = w.heap[k]?) : w1.ownsRow 0 e s v n xs := by
  obtain ⟨h1, h2⟩ := h
  rcases h2 with h2 | ⟨g, cap, cur, rfl, hB, hg, r⟩
  · exact ⟨h1, .inl h2⟩
  · exact ⟨h1, .inr ⟨g, cap, cur, rfl, hB, (hb g rfl).trans hg, r⟩⟩
theorem row_shape {w : World} {e s : Nat} {v : Value} {n : Nat} {xs : List Value} (h : w.ownsRow 0 e s v n xs) : ∃ oa cap, v = .slice oa n cap ∧ n ≤ cap ∧ cap ≤ maxLen ∧ (oa = none → cap = 0) ∧ (0 < n → ∃ g, oa = some ⟨g, 0, none⟩) := by
  obtain ⟨_, ⟨e, h0⟩ | ⟨g, cap, cur, e, hb, hg, hn, hc, hs, ht⟩⟩ := h
  · exact ⟨none, 0, by rw [e, h0], by omega, Nat.zero_le _, fun _ => rfl, fun h => by omega⟩
  · exact ⟨some ⟨g, 0, none⟩, cap, e, hn, hc, (fun h => by cases h), fun _ => ⟨g, rfl⟩⟩
theorem IL.kept {w w' : World} {v : Value} {l : List Int} {X : Nat → Prop} (h : IL w v l) (hX : In X v l) (hb : ∀ k, X k → w'.heap[k]? = w.heap[k]?) (hs : w.heap.size ≤ w'.heap.size) : IL w' v l := by
  obtain ⟨⟨a, cap, rfl, h1, h2, h3, h4⟩, h5, h6⟩ := h
  refine ⟨⟨a, cap, rfl, h1, h2, h3, fun hn => ?_⟩, h5, h6⟩
  obtain ⟨b, off, rfl, e2, e3⟩ := h4 hn
  exact ⟨b, off, rfl, Nat.lt_of_lt_of_le e2 hs, fun i hi => (World.cell?_of_block (a := ⟨b, off + i, none⟩) (hb b (hX hn b off _ _ rfl))).trans (e3 i hi)⟩
theorem PartM.kept {w w' : World} {v : Value} {p : Pt} {X : Nat → Prop} (h : PartM w v p) (hX : InP X v p) (hb : ∀ k, X k → w'.heap[k]? = w.heap[k]?) (hs : w.heap.size ≤ w'.heap.size) : PartM w' v p := by
  obtain ⟨a, b, c, d, rfl, h1, h2, h3, h4, h5⟩ := h
  obtain ⟨g1, g2, g3, g4⟩ := hX _ _ _ _ _ _ _ _ _ rfl
  exact ⟨a, b, c, d, rfl, h1.kept g1 hb hs, h2.kept g2 hb hs, h3.kept g3 hb hs, h4.kept g4 hb hs, h5⟩
section
variable {w : World} {L : Nat → Prop} {q b : Nat} {vt vp ve : Value} {ps : List (Value × Pt)} {I : Im}
theorem ImC.lt (h : ImC w L q b vt vp ve ps I) {k : Nat} (hk : Own q b vt vp ve k) : k < w.heap.size := by
  rcases hk with rfl | rfl | hk | hk | hk
  · exact (Array.getElem?_eq_some_iff.1 h.cells).1
  · exact h.bmap.lt
  · exact row_lt h.tops hk
  · exact row_lt h.parts hk
  · exact row_lt h.eps hk
theorem ImC.kept (h : ImC w L q b vt vp ve ps I) {w1 : World} (ho : ∀ k, Own q b vt vp ve k → w1.heap[k]? = w.heap[k]?) (hl : ∀ k, L k → w1.heap[k]? = w.heap[k]?) (hs : w.heap.size ≤ w1.heap.size) : ImC w1 L q b vt vp ve ps I := by
  refine ⟨(ho q (.inl rfl)).trans h.cells, ?_, row_kept h.tops (fun k hk => ho k (.inr (.inr (.inl hk)))), row_kept h.parts (fun k hk => ho k (.inr (.inr (.inr (.inl hk))))), row_kept h.eps (fun k hk => ho k (.inr (.inr (.inr (.inr hk))))), fun x hx => ?_, h.abs, fun k hk => ⟨Nat.lt_of_lt_of_le (h.lists k hk).1 hs, (h.lists k hk).2⟩, h.ok⟩
  · obtain ⟨es, clock, hm, r⟩ := h.bmap
    exact ⟨es, clock, (ho b (.inr (.inl rfl))).trans hm, r⟩
  · obtain ⟨h1, h2⟩ := h.each x hx
    exact ⟨h1.kept h2 hl hs, h2⟩
theorem ImC.under (h : ImC w L q b vt vp ve ps I) {w1 : World} (hb : Below w.heap.size w w1) : ImC w1 L q b vt vp ve ps I :=
  h.kept (fun k hk => hb.block k (h.lt hk)) (fun k hk => hb.block k (h.lists k hk).1) hb.size
theorem ImC.c0 (h : ImC w L q b vt vp ve ps I) : w.cell? ⟨q, 0, none⟩ = some (.int .i64 I.applied) := cell_blk h.cells 0 _ rfl
theorem ImC.c1 (h : ImC w L q b vt vp ve ps I) : w.cell? ⟨q, 1, none⟩ = some (.map (some b)) := cell_blk h.cells 1 _ rfl
theorem ImC.c2 (h : ImC w L q b vt vp ve ps I) : w.cell? ⟨q, 2, none⟩ = some vt := cell_blk h.cells 2 _ rfl
theorem ImC.c3 (h : ImC w L q b vt vp ve ps I) : w.cell? ⟨q, 3, none⟩ = some vp := cell_blk h.cells 3 _ rfl
theorem ImC.c4 (h : ImC w L q b vt vp ve ps I) : w.cell? ⟨q, 4, none⟩ = some ve := cell_blk h.cells 4 _ rfl
theorem ImC.fz (h : ImC w L q b vt vp ve ps I) (j : Nat) : w.frozen? ⟨q, j, none⟩ = false := frz_blk h.cells j
theorem ImC.plen (h : ImC w L q b vt vp ve ps I) : I.parts.length = ps.length := by rw [h.abs, List.length_map]
/-- Blocks of other kinds are other blocks. -/
theorem ImC.ne_qb (h : ImC w L q b vt vp ve ps I) : q ≠ b := fun e => by
  obtain ⟨es, clock, hm, r⟩ := h.bmap
  rw [← e, h.cells] at hm; cases hm
theorem ImC.ne_q (h : ImC w L q b vt vp ve ps I) : vt.ownBlock ≠ some q ∧ vp.ownBlock ≠ some q ∧ ve.ownBlock ≠ some q := by
  refine ⟨fun e => ?_, fun e => ?_, fun e => ?_⟩
  · obtain ⟨cur, hc⟩ := row_blk h.tops e; rw [h.cells] at hc; cases hc
  · obtain ⟨cur, hc⟩ := row_blk h.parts e; rw [h.cells] at hc; cases hc
  · obtain ⟨cur, hc⟩ := row_blk h.eps e; rw [h.cells] at hc; cases hc
theorem ImC.ne_b (h : ImC w L q b vt vp ve ps I) : vt.ownBlock ≠ some b ∧ vp.ownBlock ≠ some b ∧ ve.ownBlock ≠ some b := by
  obtain ⟨es, clock, hm, r⟩ := h.bmap
  refine ⟨fun e => ?_, fun e => ?_, fun e => ?_⟩
  · obtain ⟨cur, hc⟩ := row_blk h.tops e; rw [hm] at hc; cases hc
  · obtain ⟨cur, hc⟩ := row_blk h.parts e; rw [hm] at hc; cases hc
  · obtain ⟨cur, hc⟩ := row_blk h.eps e; rw [hm] at hc; cases hc
theorem ImC.ne_rows (h : ImC w L q b vt vp ve ps I) {k : Nat} : (vt.ownBlock = some k → vp.ownBlock ≠ some k) ∧ (vt.ownBlock = some k → ve.ownBlock ≠ some k) ∧ (vp.ownBlock = some k → ve.ownBlock ≠ some k) := by
  refine ⟨fun e e' => ?_, fun e e' => ?_, fun e e' => ?_⟩
  · obtain ⟨c1, h1⟩ := row_blk h.tops e; obtain ⟨c2, h2⟩ := row_blk h.parts e'; rw [h1] at h2; cases h2
  · obtain ⟨c1, h1⟩ := row_blk h.tops e; obtain ⟨c2, h2⟩ := row_blk h.eps e'; rw [h1] at h2; cases h2
  · obtain ⟨c1, h1⟩ := row_blk h.parts e; obtain ⟨c2, h2⟩ := row_blk h.eps e'; rw [h1] at h2; cases h2
theorem ImC.look (h : ImC w L q b vt vp ve ps I) (n : Int) (hn : I64 n) :
    (Instr.lookup 67 (.map (some b)) (.int .i64 n) false).run Tryz.prog w = .ok (valB I.brs n).val w := by
  have hkey := keyOf_int_mk Tryz.underlying3 (wf_of hn)
  obtain ⟨v, ps, hrun, hv⟩ := World.ownsMap.lookup h.bmap law3 Tryz.underlying67 (zero93 w) (zd := .held zeroB.val) (zp := []) rfl hkey
  rw [dmap_atKey] at hv
  have hv := (Rh_inv hv).2
  simp only [Prod.mk.injEq, DataW.held.injEq] at hv
  rw [hrun, ← hv.1]
theorem ImC.look_ok (h : ImC w L q b vt vp ve ps I) (n : Int) (hn : I64 n) :
    (Instr.lookup 67 (.map (some b)) (.int .i64 n) true).run Tryz.prog w = .ok (.tuple #[(valB I.brs n).val, .bool (getB I.brs n).isSome]) w := by
  have hkey := keyOf_int_mk Tryz.underlying3 (wf_of hn)
  obtain ⟨v, ps, hrun, hv⟩ := World.ownsMap.look_ok h.bmap law3 Tryz.underlying67 (zero93 w) (zd := .held zeroB.val) (zp := []) rfl hkey
  rw [dmap_atKey] at hv
  have hv := (Rh_inv hv).2
  simp only [Prod.mk.injEq, DataW.held.injEq] at hv
  rw [hrun, ← hv.1, dmap_has]
theorem ImOk.put {J : Im} (h : ImOk J) {n : Int} {x : Br} (hn : 1 ≤ n ∧ n ≤ 7) (hx : 1 ≤ x.life ∧ x.life ≤ 1000000000) : ImOk { J with brs := putB J.brs n x } :=
  ⟨rise_putB h.keys n x, fun p hp => by
    rcases (mem_putB _ _ _ _).1 hp with rfl | ⟨hp, _⟩
    · exact ⟨hn, hx⟩
    · exact h.brs p hp, h.parts, h.few, h.tops, h.name, h.nums, h.eps, h.epv, h.app⟩
theorem ImC.put (h : ImC w L q b vt vp ve ps I) {n : Int} {x : Br} (hn : 1 ≤ n ∧ n ≤ 7) (hx : 1 ≤ x.life ∧ x.life ≤ 1000000000) :
    ∃ w', (Instr.mapUpdate 67 (.map (some b)) (.int .i64 n) x.val).run Tryz.prog w = .ok () w' ∧ ImC w' L q b vt vp ve ps { I with brs := putB I.brs n x } ∧ w.grownBy w' (some b) := by
  have hl := keys_few h.ok.keys (fun p hp => (h.ok.brs p hp).1)
  obtain ⟨w', hrun, hown, ht⟩ := h.bmap.store law3 Tryz.underlying67 (by unfold maxLen; omega) (keyOf_int_mk Tryz.underlying3 (wf_of (k := n) (by unfold I64; omega))) (Rh_mk x)
  have hg := ht.grown
  have hs := hg.size
  have hnb := h.ne_b
  refine ⟨w', hrun, ⟨(hg.block q (h.lt (.inl rfl)) (fun e => h.ne_qb (by cases e; rfl))).trans h.cells, ?_, ?_, ?_, ?_, fun y hy => ?_, h.abs, fun k hk => ⟨Nat.lt_of_lt_of_le (h.lists k hk).1 hs, (h.lists k hk).2⟩, h.ok.put hn hx⟩, hg⟩
  · rw [dmap_put] at hown
    have := tight hown
    rw [dmap_size] at this
    exact this
  · exact row_kept h.tops (fun k hk => hg.block k (row_lt h.tops hk) (fun e => by cases e; exact hnb.1 hk))
  · exact row_kept h.parts (fun k hk => hg.block k (row_lt h.parts hk) (fun e => by cases e; exact hnb.2.1 hk))
  · exact row_kept h.eps (fun k hk => hg.block k (row_lt h.eps hk) (fun e => by cases e; exact hnb.2.2 hk))
  · obtain ⟨h1, h2⟩ := h.each y hy
    exact ⟨h1.kept h2 (fun k hk => hg.block k (h.lists k hk).1 (fun e => by cases e; exact (h.lists _ hk).2 (.inr (.inl rfl)))) hs, h2⟩
end
/-- An image all of whose blocks are among Z. -/
def Img (w : World) (Z : Nat → Prop) (q : Nat) (I : Im) : Prop := ∃ L b vt vp ve ps, ImC w L q b vt vp ve ps I ∧ (∀ k, Own q b vt vp ve k → Z k) ∧ (∀ k, L k → Z k) ∧ ∀ k, Z k → k < w.heap.size
/-- What a call leaves of it. -/
def IAfter (Z : Nat → Prop) (w w' : World) (q : Nat) (I : Im) : Prop := ∃ Z', Img w' Z' q I ∧ (∀ k, Z' k → Z k ∨ w.heap.size ≤ k) ∧ Keeps Z w w'
theorem Img.under {w w1 : World} {Z q I} (h : Img w Z q I) (hb : Below w.heap.size w w1) : Img w1 Z q I := by
  obtain ⟨L, b, vt, vp, ve, ps, h1, h2, h3, h4⟩ := h
  exact ⟨L, b, vt, vp, ve, ps, h1.under hb, h2, h3, fun k hk => Nat.lt_of_lt_of_le (h4 k hk) hb.size⟩
theorem Img.ok {w : World} {Z q I} (h : Img w Z q I) : ImOk I := by obtain ⟨L, b, vt, vp, ve, ps, h1, h2, h3, h4⟩ := h; exact h1.ok
theorem Img.after {w : World} {Z q I} (h : Img w Z q I) {w1 : World} (hb : Below w.heap.size w w1) : IAfter Z w w1 q I := ⟨Z, h.under hb, fun k hk => .inl hk, Keeps.of_below hb⟩
theorem IAfter.trans {Z Z1 : Nat → Prop} {w w1 w2 : World} {q : Nat} {I J : Im} (hi : Img w1 Z1 q I) (hz : ∀ k, Z1 k → Z k ∨ w.heap.size ≤ k) (hk : Keeps Z w w1) (h : IAfter Z1 w1 w2 q J) : IAfter Z w w2 q J := by
  obtain ⟨Z2, a1, a2, a3⟩ := h
  refine ⟨Z2, a1, fun k hk2 => ?_, hk.trans a3 hz⟩
  rcases a2 k hk2 with h1 | h1
  · exact hz k h1
  · exact .inr (Nat.le_trans hk.size h1)
/-- From the parts to the whole. -/
theorem ImC.after {w w1 : World} {L L1 : Nat → Prop} {q b b1 : Nat} {vt vp ve vt1 vp1 ve1 : Value} {ps ps1 : List (Value × Pt)} {I I1 : Im} {Z : Nat → Prop} (h0 : Img w Z q I) (h : ImC w1 L1 q b1 vt1 vp1 ve1 ps1 I1) (ho : ∀ k, Own q b1 vt1 vp1 ve1 k → Z k ∨ w.heap.size ≤ k) (hl : ∀ k, L1 k → Z k ∨ w.heap.size ≤ k) (hk : Keeps Z w w1) : IAfter Z w w1 q I1 :=
  ⟨fun k => (Own q b1 vt1 vp1 ve1 k ∨ L1 k), ⟨L1, b1, vt1, vp1, ve1, ps1, h, fun k hk => .inl hk, fun k hk => .inr hk, fun k hk => hk.elim (fun h1 => h.lt h1) (fun h1 => (h.lists k h1).1)⟩, fun k hk => hk.elim (ho k) (hl k), hk⟩

/-- A record that is there. -/
structure RecM (w : World) (v : Value) (r : Rc) : Prop where
  shape : ∃ lv, v = .agg #[.int .i64 r.kind, .int .i64 r.a, .int .i64 r.b, .int .i64 r.c, .int .i64 r.d, .string r.name, .string r.text, lv] ∧ IL w lv r.list
  ok : RcOk r
  name : r.name.size ≤ maxLen
theorem RecM.under {w w1 : World} {v : Value} {r : Rc} (h : RecM w v r) (hb : Below w.heap.size w w1) : RecM w1 v r := by
  obtain ⟨⟨lv, e, h1⟩, h2, h3⟩ := h
  exact ⟨⟨lv, e, h1.under hb⟩, h2, h3⟩
end Go.Proofs.YtcffomhcmilcpaaGreat
