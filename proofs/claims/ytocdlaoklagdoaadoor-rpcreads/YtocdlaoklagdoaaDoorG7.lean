/- Where the document's read stands. -/
import Derived.Test.YtocdlaoklagdoaaDoorRdc
import Derived.Test.YtocdlaoklagdoaaDoorRfbatch
import Derived.Deep.CutRange
import Derived.Deep.DeepCutAuto
namespace Go.Proofs.YtocdlaoklagdoaaDoor
open Go.RowKit Go.Maps
set_option linter.unusedSimpArgs false
set_option linter.unusedVariables false
set_option maxRecDepth 100000

structure FAt (w : World) (q b : Nat) (s : RS) (cs : Array Value) (W : World) : Prop where
  rd : Rf W q s
  out : W.heap[w.heap.size]? = some (.cells #[.int .i64 0, .int .i64 0, .int .i64 0, .int .i64 0, .int .i64 0, .int .i64 0, .int .i64 0, .int .i64 0, .int .i64 0, .int .i64 0, .int .i64 0, .int .i64 0, .int .i64 0, .int .i64 0, .int .i64 0, .int .i64 0, .string ⟨#[]⟩, .string ⟨#[]⟩, .slice none 0 0, .slice none 0 0, .slice none 0 0] 27)
  box : W.heap[b]? = some (.cells cs 27)
  grown : w.grownBy W (some q)
  low : q < w.heap.size
  mid : w.heap.size < b
theorem FAt.lt {w q b s cs W} (h : FAt w q b s cs W) : b < W.heap.size := lt_of_row h.box
theorem FAt.call {w q b s cs W} (h : FAt w q b s cs W) {W' : World} {s' : RS} (hr : Rf W' q s') (hg : W.grownBy W' (some q)) : FAt w q b s' cs W' := by
  have h1 := h.low
  have h2 := h.mid
  have h3 := h.lt
  exact ⟨hr, (hg.block _ (by omega) (fun e => by cases e; omega)).trans h.out, (hg.block _ h3 (fun e => by cases e; omega)).trans h.box, h.grown.trans hg, h1, h2⟩
theorem FAt.set {w q b s cs W} (h : FAt w q b s cs W) (j : Nat) (u : Value) : FAt w q b s (cs.setIfInBounds j u) (W.setCell ⟨b, j, none⟩ u) := by
  have h1 := h.low
  have h2 := h.mid
  refine ⟨h.rd.kept (Below.heap_setCell W ⟨b, j, none⟩ u q (by show _ ≠ b; omega)), ?_, ?_, grown_set h.grown _ _ _ (by omega), h1, h2⟩
  · rw [Below.heap_setCell W ⟨b, j, none⟩ u w.heap.size (by show _ ≠ b; omega)]; exact h.out
  · rw [setCell_eq_setRow W b j _ 27 (0, 0) u h.box, setRow_heap W b _ _ 27 (0, 0) h.box]
theorem FAt.under {w q b s cs W} (h : FAt w q b s cs W) {W' : World} (hb : Below W.heap.size W W') : FAt w q b s cs W' := by
  have h1 := h.low
  have h2 := h.mid
  have h3 := h.lt
  exact ⟨h.rd.kept (hb.block _ (by omega)), (hb.block _ (by omega)).trans h.out, (hb.block _ h3).trans h.box, h.grown.trans (grown_below hb), h1, h2⟩
theorem FAt.alloc {w q b s cs W} (h : FAt w q b s cs W) (O : Obj) : FAt w q b s cs (W.alloc O) := h.under ((Below.refl _ _).alloc (Nat.le_refl _) O)
/-- A store into a block beyond. -/
theorem FAt.else {w q b s cs W} (h : FAt w q b s cs W) (c j : Nat) (u : Value) (hc : b < c) : FAt w q b s cs (W.setCell ⟨c, j, none⟩ u) := by
  have h1 := h.low
  have h2 := h.mid
  refine ⟨h.rd.kept (Below.heap_setCell W ⟨c, j, none⟩ u q (by show _ ≠ c; omega)), ?_, ?_, grown_set h.grown _ _ _ (by omega), h1, h2⟩
  · rw [Below.heap_setCell W ⟨c, j, none⟩ u w.heap.size (by show _ ≠ c; omega)]; exact h.out
  · rw [Below.heap_setCell W ⟨c, j, none⟩ u b (by show _ ≠ c; omega)]; exact h.box
theorem FAt.grow {w q b s cs W} (h : FAt w q b s cs W) {W' : World} {row : Option Nat} (hg : W.grownBy W' row) (hr : ∀ j, row = some j → b < j) : FAt w q b s cs W' := by
  have h1 := h.low
  have h2 := h.mid
  have h3 := h.lt
  refine ⟨h.rd.kept (hg.block _ (by omega) (fun e => by have := hr q e.symm; omega)), (hg.block _ (by omega) (fun e => by have := hr _ e.symm; omega)).trans h.out, (hg.block _ h3 (fun e => by have := hr _ e.symm; omega)).trans h.box, ?_, h1, h2⟩
  exact h.grown.andThen hg (fun j hj => .inl (by have := hr j hj; omega))
theorem FAt.rest {w q b s cs W} (h : FAt w q b s cs W) (l : List UInt8) (hl : l.length ≤ maxLen) : FAt w q b ⟨l, s.wrong⟩ cs (W.setCell ⟨q, 0, none⟩ (.string (strOf l))) := by
  have h1 := h.low
  have h2 := h.mid
  exact h.call (h.rd.set0 l hl) (Lib.grownBy_setCell _ q 0 _)
theorem grown_out {w W : World} {q : Nat} (h : w.grownBy W (some q)) (cs : Array Value) : w.grownBy (W.setRow w.heap.size cs) (some q) := by
  have hb := below_setRow (w := W) (w3 := W) (B := w.heap.size) (b := w.heap.size) (Below.refl _ _) (Nat.le_refl _) cs
  exact ⟨hb.os.trans h.os, hb.tape.trans h.tape, hb.output.trans h.output, Nat.le_trans h.size hb.size, fun k hk hne => (hb.block k hk).trans (h.block k hk hne)⟩
theorem own_slice {W : World} {B T z n : Nat} {v : Value} {xs : List Value} (h : W.ownsRow B T z v n xs) : ∃ a m c, v = .slice a m c := by
  rcases h.2 with ⟨rfl, _⟩ | ⟨g, cap, cur, rfl, _⟩
  · exact ⟨_, _, _, rfl⟩
  · exact ⟨_, _, _, rfl⟩
theorem own_one {W : World} {B T z n : Nat} {v : Value} {xs : List Value} (h : W.ownsRow B T z v n xs) : v.oneCell' = true := by
  rcases h.2 with ⟨rfl, _⟩ | ⟨g, cap, cur, rfl, _⟩ <;> rfl
theorem runB_stop (n mx : Int) (f k : Nat) (acc : List Bat) (s : RS) (h : ¬ ((k : Int) < n ∧ (k : Int) ≤ mx ∧ s.wrong = false)) : runB n mx f k acc s = some (acc, s) := by
  cases f with
  | zero => rfl
  | succ f => simp only [runB]; rw [if_neg h]
theorem runB_go (n : Int) (k : Nat) (acc : List Bat) (s : RS) (h1 : (k : Int) < n) (h2 : k ≤ 64) (h3 : s.wrong = false) : runB n 64 (65 - k) k acc s = if (readBatchL s.rest).2.2 = 0 then runB n 64 (65 - (k + 1)) (k + 1) (acc ++ [(readBatchL s.rest).1]) ⟨s.rest.drop (readBatchL s.rest).2.1, s.wrong⟩ else none := by
  have e : 65 - k = (65 - (k + 1)) + 1 := by omega
  rw [e]
  simp only [runB]
  rw [if_pos ⟨h1, by omega, h3⟩]
theorem readBatchL_bound (l : List UInt8) (h : (readBatchL l).2.2 = 0) : (readBatchL l).2.1 ≤ l.length := by
  unfold readBatchL at h ⊢
  split at h
  · cases h
  · rename_i c1
    rw [if_neg c1]
    split at h
    · cases h
    · rename_i c2
      rw [if_neg c2]
      split at h
      · cases h
      · rename_i c3
        rw [if_neg c3]
        split at h
        · cases h
        · rename_i c4
          rw [if_neg c4]
          split at h
          · cases h
          · rename_i c5
            rw [if_neg c5]
            simp only
            omega
theorem shr_has (P : Int) (k : Nat) (h : 0 ≤ P) : ((P / 2 ^ k).tmod 2 == 1) = hasB P k := by
  have h2 : 0 ≤ P / 2 ^ k := Int.ediv_nonneg h (by exact Int.le_of_lt (Int.pow_pos (by decide)))
  rw [Int.tmod_eq_emod_of_nonneg h2]
  unfold hasB
  cases hd : decide (P / 2 ^ k % 2 = 1) with
  | true => simpa using hd
  | false => simpa using hd
end Go.Proofs.YtocdlaoklagdoaaDoor

/- The document's read: its pieces, and what they stand on. -/
namespace Go.Proofs.YtocdlaoklagdoaaDoor
open Go.RowKit Go.Maps
set_option linter.unusedSimpArgs false
set_option linter.unusedVariables false
set_option maxRecDepth 100000

noncomputable def body30 : Code := Tryd.f30.body.getD .skip
/-- What follows the first n parts. -/
def tailAt : Nat → Code → Code
  | 0, c => c
  | n + 1, .seq _ b => tailAt n b
  | _ + 1, c => c
theorem mk15 (w : World) : (Instr.makeSlice 25 (.int .i64 15) (.int .i64 15)).run Tryd.prog w = .ok (.slice (some ⟨w.heap.size, 0, none⟩) 15 15) (w.alloc (.cells #[.int .i64 0, .int .i64 0, .int .i64 0, .int .i64 0, .int .i64 0, .int .i64 0, .int .i64 0, .int .i64 0, .int .i64 0, .int .i64 0, .int .i64 0, .int .i64 0, .int .i64 0, .int .i64 0, .int .i64 0] 3)) := by kernel_rfl
def endR (P K : Int) (L : List Int) (N T : List UInt8) : Option (List Bat × RS) → Option Msg
  | none => none
  | some bs => lastR K L N T bs.1 (optV (hasB P 18) entR 64 65 bs.2).1 (optV (hasB P 19) numS 256 257 (optV (hasB P 18) entR 64 65 bs.2).2)
/-- Fifteen numbers in a row. -/
structure Row15 (W : World) (c : Nat) (L : List Int) : Prop where
  row : ∃ R : Array Value, W.heap[c]? = some (.cells R 3) ∧ R.size = 15 ∧ ∀ j, j < 15 → R[j]? = some (.int .i64 (L.getD j 0))
theorem Row15.cell {W : World} {c : Nat} {L : List Int} (h : Row15 W c L) (j : Nat) (hj : j < 15) : W.cell? ⟨c, j, none⟩ = some (.int .i64 (L.getD j 0)) := by
  obtain ⟨R, h1, _, h3⟩ := h.row
  exact cell_blk h1 j _ (h3 j hj)
theorem Row15.free {W : World} {c : Nat} {L : List Int} (h : Row15 W c L) (j : Nat) : W.frozen? ⟨c, j, none⟩ = false := by
  obtain ⟨R, h1, _, _⟩ := h.row
  exact frozen_blk h1 j
theorem Row15.lt {W : World} {c : Nat} {L : List Int} (h : Row15 W c L) : c < W.heap.size := by
  obtain ⟨R, h1, _, _⟩ := h.row
  exact lt_of_row h1
theorem Row15.kept {W W' : World} {c : Nat} {L : List Int} (h : Row15 W c L) (hb : W'.heap[c]? = W.heap[c]?) : Row15 W' c L := by
  obtain ⟨R, h1, h2, h3⟩ := h.row
  exact ⟨R, hb.trans h1, h2, h3⟩
theorem Row15.put {W : World} {c : Nat} {L : List Int} (h : Row15 W c L) (n : Int) (hL : L.length < 15) : Row15 (W.setCell ⟨c, L.length, none⟩ (.int .i64 n)) c (L ++ [n]) := by
  obtain ⟨R, h1, h2, h3⟩ := h.row
  refine ⟨R.setIfInBounds L.length (.int .i64 n), ?_, by simp [h2], fun j hj => ?_⟩
  · rw [setCell_eq_setRow W c L.length _ 3 (0, 0) _ h1, setRow_heap W c _ _ 3 (0, 0) h1]
  · by_cases e : L.length = j
    · subst e
      rw [Array.getElem?_setIfInBounds_self, if_pos (by omega)]
      simp [List.getD]
    · rw [Array.getElem?_setIfInBounds_ne e, h3 j hj]
      by_cases hjl : j < L.length
      · simp [List.getD, List.getElem?_append_left hjl]
      · have e1 : (L ++ [n])[j]? = none := List.getElem?_eq_none (by simp; omega)
        have e2 : L[j]? = none := List.getElem?_eq_none (by omega)
        simp [List.getD, e1, e2]
theorem Row15.zero {W : World} {c : Nat} {L : List Int} (h : Row15 W c L) : Row15 W c (L ++ [0]) := by
  obtain ⟨R, h1, h2, h3⟩ := h.row
  refine ⟨R, h1, h2, fun j hj => ?_⟩
  rw [h3 j hj]
  by_cases hjl : j < L.length
  · simp [List.getD, List.getElem?_append_left hjl]
  · by_cases e : j = L.length
    · subst e; simp [List.getD]
    · have e1 : (L ++ [0])[j]? = none := List.getElem?_eq_none (by simp; omega)
      have e2 : L[j]? = none := List.getElem?_eq_none (by omega)
      simp [List.getD, e1, e2]
theorem row15_new (W : World) : Row15 (W.alloc (.cells #[.int .i64 0, .int .i64 0, .int .i64 0, .int .i64 0, .int .i64 0, .int .i64 0, .int .i64 0, .int .i64 0, .int .i64 0, .int .i64 0, .int .i64 0, .int .i64 0, .int .i64 0, .int .i64 0, .int .i64 0] 3)) W.heap.size [] := by
  refine ⟨_, heap_alloc_new W _, rfl, fun j hj => ?_⟩
  have h : j = 0 ∨ j = 1 ∨ j = 2 ∨ j = 3 ∨ j = 4 ∨ j = 5 ∨ j = 6 ∨ j = 7 ∨ j = 8 ∨ j = 9 ∨ j = 10 ∨ j = 11 ∨ j = 12 ∨ j = 13 ∨ j = 14 := by omega
  rcases h with rfl | rfl | rfl | rfl | rfl | rfl | rfl | rfl | rfl | rfl | rfl | rfl | rfl | rfl | rfl <;> rfl
theorem runR_stop {α : Type} (one : RS → α × RS) (n mx : Int) (f k : Nat) (acc : List α) (s : RS) (h : ¬ ((k : Int) < n ∧ (k : Int) ≤ mx ∧ s.wrong = false)) : runR one n mx f k acc s = (acc, s) := by
  cases f with
  | zero => rfl
  | succ f => simp only [runR]; rw [if_neg h]
theorem runR_go {α : Type} (one : RS → α × RS) (n mx : Int) (f k : Nat) (acc : List α) (s : RS) (h1 : (k : Int) < n) (h2 : (k : Int) ≤ mx) (h3 : s.wrong = false) : runR one n mx (f + 1) k acc s = runR one n mx f (k + 1) (acc ++ [(one s).1]) (one s).2 := by
  simp only [runR]
  rw [if_pos ⟨h1, h2, h3⟩]

theorem HiAll.low {c c' : Nat} {w : World} {m : Msg} {ba ea ia : Option Addr} (h : HiAll c w m ba ea ia) (hc : c' ≤ c) : HiAll c' w m ba ea ia := ⟨h.bats.low hc, h.ents.low hc, h.ints.low hc⟩
theorem step_call41 {ops : Array Oper} {o : Oper} {a : Act} {w : World} {K : Act → World → Prop} {Q : Exit → Act → World → Prop} {E : Prop} {R : Ending → World → Prop} (hg : o.guard = none) (x : Nat)
    (ho : o.op = .call { callee := .value (.func 41), args := #[.tmp x], argTypes := #[57] }) (v : Value) (hx : a.tmps[x]?.getD undef = v) (hc : Calls Tryd.prog 41 #[v] w R) (hR : ∀ e w', R e w' → ∃ u, e = .returned u ∧ K (a.put o.dst u) w') :
    if Region.wanted o (yielded ops a.tmps) = true then Oper.wp Tryd.prog o a w K Q else E := by
  have hw : Region.wanted o (yielded ops a.tmps) = true := by simp [Region.wanted, hg]
  rw [if_pos hw]
  unfold Oper.wp
  simp only [go_sem, ho, hx]
  simp [go_sem, hx]
  refine hc.mono ?_
  rintro e w' hr
  obtain ⟨u, rfl, hK⟩ := hR e w' hr
  exact hK
/-- What the told cells and the reader must say at the end. -/
structure EndOk (w : World) (b : Nat) (l : List UInt8) (s : RS) (cs : Array Value) (W : World) : Prop where
  one : cs.all (·.oneCell') = true
  no : ¬ (s.wrong = false ∧ s.rest = []) → refR l = none
  yes : s.wrong = false → s.rest = [] → ∃ m ba bc ea ec ia ic, refR l = some m ∧ cs = #[.int .i64 m.kind, .int .i64 m.n0, .int .i64 m.n1, .int .i64 m.n2, .int .i64 m.n3, .int .i64 m.n4, .int .i64 m.n5, .int .i64 m.n6, .int .i64 m.n7, .int .i64 m.n8, .int .i64 m.n9, .int .i64 m.n10, .int .i64 m.n11, .int .i64 m.n12, .int .i64 m.n13, .int .i64 m.err, .string (strOf m.name), .string (strOf m.text), .slice ba m.bats.length bc, .slice ea m.ents.length ec, .slice ia m.ints.length ic] ∧ HiAll (b + 1) W m ba ea ia
theorem rd_post {w W : World} {q b : Nat} {l : List UInt8} {s : RS} {cs : Array Value} (hn : cs.size = 21) (HF : FAt w q b s cs W) (HE : EndOk w b l s cs W) (ok : Bool) (hok : ok = decide (s.wrong = false ∧ s.rest = [])) : RdPost l q w (.returned (.tuple #[.agg cs, .bool ok])) (W.setRow w.heap.size cs) := by
  refine ⟨cs, ok, rfl, hn, HE.one, grown_out HF.grown cs, fun h => ?_, fun h => ?_⟩
  · subst h
    exact HE.no (of_decide_eq_false hok.symm)
  · subst h
    obtain ⟨h1, h2⟩ := of_decide_eq_true hok.symm
    obtain ⟨m, ba, bc, ea, ec, ia, ic, e1, e2, e3⟩ := HE.yes h1 h2
    refine ⟨m, ba, bc, ea, ec, ia, ic, e1, e2, ?_⟩
    have hm := HF.mid
    exact (e3.keep (fun j hj _ => setRow_other W w.heap.size j cs (by omega)) (by rw [setRow_size]; exact Nat.le_refl _)).low (by omega)
/-- What lies behind the told box is as it was. -/
def Kept (b : Nat) (W V : World) : Prop := ∀ j, b < j → j < W.heap.size → V.heap[j]? = W.heap[j]?
/-- The reader, the told box, and a row of the loop's own that grows. -/
structure OAt (w W : World) (q b T z : Nat) (s : RS) (cs : Array Value) (v : Value) (k : Nat) (cells : List Value) (wx : World) : Prop where
  fat : FAt w q b s cs wx
  row : wx.ownsRow W.heap.size T z v k cells
  keep : ∀ j, b < j → j < W.heap.size → wx.heap[j]? = W.heap[j]?
  size : W.heap.size ≤ wx.heap.size
  hi : b < W.heap.size
theorem OAt.own {w W q b T z s cs v k cells wx} (h : OAt w W q b T z s cs v k cells wx) : ∀ j, v.ownBlock = some j → W.heap.size ≤ j ∧ j < wx.heap.size := fun j hj => World.ownsRow.lt h.row j hj
theorem OAt.call {w W q b T z s cs v k cells wx} (h : OAt w W q b T z s cs v k cells wx) {w4 : World} {s' : RS} (hr : Rf w4 q s') (hg : wx.grownBy w4 (some q)) : OAt w W q b T z s' cs v k cells w4 := by
  have h1 := h.fat.low
  have h2 := h.fat.mid
  have h3 := h.hi
  have h4 := h.size
  have h5 := hg.size
  exact ⟨h.fat.call hr hg, ownsRow_kept h.row (fun j hj => hg.block j (h.own j hj).2 (fun e => by have := (h.own j hj).1; cases e; omega)), fun j hb hj => (hg.block j (by omega) (fun e => by cases e; omega)).trans (h.keep j hb hj), by omega, h3⟩
theorem OAt.alloc {w W q b T z s cs v k cells wx} (h : OAt w W q b T z s cs v k cells wx) (O : Obj) : OAt w W q b T z s cs v k cells (wx.alloc O) := by
  have h3 := h.hi
  have h4 := h.size
  exact ⟨h.fat.alloc O, ownsRow_kept h.row (fun j hj => Below.heap_alloc wx O j (h.own j hj).2), fun j hb hj => (Below.heap_alloc wx O j (by omega)).trans (h.keep j hb hj), by simp; omega, h3⟩
theorem OAt.else {w W q b T z s cs v k cells wx} (h : OAt w W q b T z s cs v k cells wx) (c j : Nat) (u : Value) (hc : W.heap.size ≤ c) (hne : v.ownBlock ≠ some c) : OAt w W q b T z s cs v k cells (wx.setCell ⟨c, j, none⟩ u) := by
  have h3 := h.hi
  have h4 := h.size
  refine ⟨h.fat.else c j u (by omega), ownsRow_kept h.row (fun i hi => Below.heap_setCell wx ⟨c, j, none⟩ u i (by show _ ≠ c; intro e; exact hne (by rw [hi, e]))), fun i hb hi => (Below.heap_setCell wx ⟨c, j, none⟩ u i (by show _ ≠ c; omega)).trans (h.keep i hb hi), by rw [set_size]; exact h4, h3⟩
theorem OAt.app {w W q b T z s cs v k cells wx} (h : OAt w W q b T z s cs v k cells wx) {v' : Value} {n : Nat} {xs : List Value} {w5 : World} (hown : w5.ownsRow W.heap.size T z v' n xs) (hg : wx.grownBy w5 v.ownBlock) : OAt w W q b T z s cs v' n xs w5 := by
  have h3 := h.hi
  have h4 := h.size
  have h5 := hg.size
  exact ⟨h.fat.grow hg (fun j hj => by have := (h.own j hj).1; omega), hown, fun j hb hj => (hg.block j (by omega) (fun e => by have := (h.own j e.symm).1; omega)).trans (h.keep j hb hj), by omega, h3⟩
theorem OAt.put {w W q b T z s cs v k cells wx} (h : OAt w W q b T z s cs v k cells wx) (j : Nat) (u : Value) : OAt w W q b T z s (cs.setIfInBounds j u) v k cells (wx.setCell ⟨b, j, none⟩ u) := by
  have h3 := h.hi
  have h4 := h.size
  exact ⟨h.fat.set j u, ownsRow_kept h.row (fun i hi => Below.heap_setCell wx ⟨b, j, none⟩ u i (by show _ ≠ b; have := (h.own i hi).1; omega)), fun i hb hi => (Below.heap_setCell wx ⟨b, j, none⟩ u i (by show _ ≠ b; omega)).trans (h.keep i hb hi), by rw [set_size]; exact h4, h3⟩
theorem OAt.start {w W q b} (T z : Nat) {s cs wx} (h : FAt w q b s cs W) {s' : RS} (hr : Rf wx q s') (hg : W.grownBy wx (some q)) : OAt w W q b T z s' cs (.slice none 0 0) 0 [] wx := by
  have h1 := h.low
  have h2 := h.mid
  exact ⟨h.call hr hg, World.ownsRow_nil wx _ T z, fun j hb hj => hg.block j hj (fun e => by cases e; omega), hg.size, h.lt⟩
end Go.Proofs.YtocdlaoklagdoaaDoor
