/- A record of metadata, read: readMetaBody. -/
import Derived.Test.YtcmmfmibgnebpaaRbatch
import Derived.Test.YtcmmfmibgnebpaaMeta
namespace Go.Proofs.Ytcmmfmibgnebpaa
open Go.RowKit Go.Maps
set_option linter.unusedSimpArgs false
set_option linter.unusedVariables false
set_option maxRecDepth 100000

theorem info3 : ∃ i, Try.prog.info? 3 = some i ∧ i.zero = some (.int .i64 0) ∧ i.size = 1 ∧ i.bytes = 8 := ⟨_, rfl, rfl, rfl, rfl⟩
/-- A slice of ints that is there. -/
structure Ints (w : World) (v : Value) (ns : List Int) : Prop where
  shape : ∃ a cap, v = .slice a ns.length cap ∧ IntsAt w a w.heap.size ns
theorem Ints.under {w w' : World} {v : Value} {ns : List Int} (h : Ints w v ns) (hb : Below w.heap.size w w') : Ints w' v ns := by
  obtain ⟨a, cap, e, ha⟩ := h.shape
  exact ⟨a, cap, e, (ha.under hb).more hb.size⟩
theorem ints_nil (w : World) : Ints w (.slice none 0 0) [] := ⟨none, 0, rfl, .inl rfl⟩
theorem Ints.off {w w' : World} {v : Value} {ns : List Int} (h : Ints w v ns) (hk : ∀ q, v.ownBlock = some q → w'.heap[q]? = w.heap[q]?) (hs : w.heap.size ≤ w'.heap.size) : Ints w' v ns := by
  obtain ⟨a, cap, e, ha⟩ := h.shape
  refine ⟨a, cap, e, ?_⟩
  rcases ha with ha | ⟨b, off, e2, hl, hc⟩
  · exact .inl ha
  · exact .inr ⟨b, off, e2, Nat.lt_of_lt_of_le hl hs, fun i hi => (World.cell?_of_block (a := ⟨b, off + i, none⟩) (hk b (by rw [e, e2]; rfl))).trans (hc i hi)⟩
theorem ints_of_row {w : World} {B : Nat} {v : Value} {ns : List Int} (h : w.ownsRow B 3 1 v ns.length (ic ns)) : Ints w v ns := by
  obtain ⟨_, h2⟩ := h
  rcases h2 with ⟨rfl, hn⟩ | ⟨g, cap, cur, rfl, hB, hg, hc, hm, hs, ht⟩
  · have : ns = [] := List.eq_nil_of_length_eq_zero hn
    subst this
    exact ints_nil w
  · refine ⟨⟨_, cap, rfl, .inr ⟨g, 0, rfl, ?_, fun i hi => ?_⟩⟩⟩
    · rcases Nat.lt_or_ge g w.heap.size with h1 | h1
      · exact h1
      · rw [Array.getElem?_eq_none h1] at hg; cases hg
    · refine cell_blk hg _ _ ?_
      have hu : (ic ns)[i]? = some (.int .i64 ns[i]) := by simp [ic, hi]
      rw [← ht, List.getElem?_take, if_pos (by omega)] at hu
      rw [Nat.zero_add]
      simpa using hu

theorem numsS_i64 : ∀ (n : Nat) (s : RS), ∀ x ∈ (numsS n s).1, I64 x
  | 0, s, r, h => by simp [numsS] at h
  | n + 1, s, r, h => by
    simp only [numsS, List.mem_append, List.mem_singleton] at h
    rcases h with h | rfl
    · exact numsS_i64 n s r h
    · exact numS_i64 _

/-- Where readMetaBody stands behind k numbers. -/
structure MrAt (w : World) (p : Nat) (n0 n1 n2 n3 n4 : Int) (nm tx : ByteArray) (c : RS) (k : Nat) (rv : Value) (wr : World) : Prop where
  rd : Rd wr (w.heap.size + 1) (numsS k c).2
  out : wr.heap[w.heap.size]? = some (.cells #[.int .i64 0, .int .i64 0, .int .i64 0, .int .i64 0, .int .i64 0, .string ⟨#[]⟩, .string ⟨#[]⟩, .slice none 0 0] 43)
  box : wr.heap[p]? = some (.cells #[.int .i64 n0, .int .i64 n1, .int .i64 n2, .int .i64 n3, .int .i64 n4, .string nm, .string tx, rv] 43)
  row : wr.ownsRow (p + 1) 3 1 rv k (ic (numsS k c).1)
  below : Below w.heap.size w wr
  lo : w.heap.size + 1 < p
  hi : p < wr.heap.size

theorem MrAt.row4 {w : World} {p : Nat} {n0 n1 n2 n3 n4 : Int} {nm tx : ByteArray} {c : RS} {k : Nat} {rv : Value} {wr : World} (h : MrAt w p n0 n1 n2 n3 n4 nm tx c k rv wr) {w1 : World} (hg1 : wr.grownBy w1 (some (w.heap.size + 1))) (O : Obj) : (w1.alloc O).ownsRow (p + 1) 3 1 rv k (ic (numsS k c).1) ∧ w1.cell? ⟨p, 7, none⟩ = some rv := by
  have hlo := h.lo
  have hhi := h.hi
  have hs := hg1.size
  refine ⟨ownsRow_kept h.row (fun q hq => ?_), cell_blk ((hg1.block p hhi (by simp; omega)).trans h.box) 7 rv rfl⟩
  have hq2 := World.ownsRow.lt h.row q hq
  rw [Below.heap_alloc _ _ _ (by omega), hg1.block q hq2.2 (by simp; omega)]

theorem step_call54 {ops : Array Oper} {o : Oper} {a : Act} {w : World} {K : Act → World → Prop} {Q : Exit → Act → World → Prop} {E : Prop} {R : Ending → World → Prop} (hg : o.guard = none) (x : Nat)
    (ho : o.op = .call { callee := .value (.func 54), args := #[.tmp x], argTypes := #[75] }) (v : Value) (hx : a.tmps[x]?.getD undef = v) (hc : Calls Try.prog 54 #[v] w R) (hR : ∀ e w', R e w' → ∃ u, e = .returned u ∧ K (a.put o.dst u) w') :
    if Region.wanted o (yielded ops a.tmps) = true then Oper.wp Try.prog o a w K Q else E := by
  have hw : Region.wanted o (yielded ops a.tmps) = true := by simp [Region.wanted, hg]
  rw [if_pos hw]
  unfold Oper.wp
  simp only [go_sem, ho, hx]
  simp [go_sem, hx]
  refine hc.mono ?_
  rintro e w' hr
  obtain ⟨u, rfl, hK⟩ := hR e w' hr
  exact hK

/-- A reader's call, and a store into another box. -/
theorem MrAt.start {w w1 w3 : World} {l : List UInt8} {n0 n1 n2 n3 n4 : Int} {nm tx : ByteArray} {c : RS} (hg1 : ((w.alloc (.cells #[.int .i64 0, .int .i64 0, .int .i64 0, .int .i64 0, .int .i64 0, .string ⟨#[]⟩, .string ⟨#[]⟩, .slice none 0 0] 43)).alloc (.cells #[.string (strOf l), .bool false] 75)).grownBy w1 (some (w.heap.size + 1)))
    (hr3 : Rd w3 (w.heap.size + 1) c) (hbx : w3.heap[w1.heap.size + 1]? = some (.cells #[.int .i64 n0, .int .i64 n1, .int .i64 n2, .int .i64 n3, .int .i64 n4, .string nm, .string tx, .slice none 0 0] 43)) (hg3 : ∀ q, q < w1.heap.size → q ≠ w.heap.size + 1 → w3.heap[q]? = w1.heap[q]?) (hs3 : w1.heap.size + 1 < w3.heap.size) (ho : w3.os = w1.os ∧ w3.tape = w1.tape ∧ w3.output = w1.output) : MrAt w (w1.heap.size + 1) n0 n1 n2 n3 n4 nm tx c 0 (.slice none 0 0) w3 := by
  have h1 := hg1.size
  simp at h1
  refine ⟨hr3, ?_, hbx, World.ownsRow_nil _ _ _ _, ?_, by omega, hs3⟩
  · rw [hg3 w.heap.size (by omega) (by omega), hg1.block w.heap.size (by simp; omega) (by simp), Below.heap_alloc _ _ _ (by simp)]
    exact heap_alloc_new w _
  · refine ⟨ho.1.trans hg1.os, ho.2.1.trans hg1.tape, ho.2.2.trans hg1.output, by omega, fun k hk => ?_⟩
    rw [hg3 k (by omega) (by omega), hg1.block k (by simp; omega) (by simp; omega), Below.heap_alloc _ _ _ (by simp; omega), Below.heap_alloc _ _ _ hk]

theorem MrAt.next {w : World} {p : Nat} {n0 n1 n2 n3 n4 : Int} {nm tx : ByteArray} {c : RS} {k : Nat} {rv : Value} {wr : World} (h : MrAt w p n0 n1 n2 n3 n4 nm tx c k rv wr) {w1 w2 : World} (hr : Rd w1 (w.heap.size + 1) (numS (numsS k c).2).2) (hg1 : wr.grownBy w1 (some (w.heap.size + 1)))
    {g cap : Nat} {O : Obj} (hown : w2.ownsRow (p + 1) 3 1 (.slice (some ⟨g, 0, none⟩) (k + 1) cap) (k + 1) (ic (numsS k c).1 ++ [.int .i64 (numS (numsS k c).2).1])) (hg2 : (w1.alloc O).grownBy w2 rv.ownBlock) :
    w2.cell? ⟨p, 7, none⟩ = some rv ∧ w2.frozen? ⟨p, 7, none⟩ = false ∧ MrAt w p n0 n1 n2 n3 n4 nm tx c (k + 1) (.slice (some ⟨g, 0, none⟩) (k + 1) cap) (w2.setCell ⟨p, 7, none⟩ (.slice (some ⟨g, 0, none⟩) (k + 1) cap)) := by
  have hlo := h.lo
  have hhi := h.hi
  have hs1 := hg1.size
  have hs2 := hg2.size
  simp at hs2
  have hown0 : ∀ q, rv.ownBlock = some q → p + 1 ≤ q := fun q hq => (World.ownsRow.lt h.row q hq).1
  have hb : ∀ q, q < wr.heap.size → q ≠ w.heap.size + 1 → q ≤ p → w2.heap[q]? = wr.heap[q]? := fun q hq hne hp => by
    rw [hg2.block q (by simp; omega) (fun e => by have := hown0 q e.symm; omega), Below.heap_alloc _ _ _ (by omega), hg1.block q hq (fun e => hne (by cases e; rfl))]
  have hbox : w2.heap[p]? = some (.cells #[.int .i64 n0, .int .i64 n1, .int .i64 n2, .int .i64 n3, .int .i64 n4, .string nm, .string tx, rv] 43) := (hb p hhi (by omega) (Nat.le_refl _)).trans h.box
  have hrd : Rd w2 (w.heap.size + 1) (numS (numsS k c).2).2 := hr.kept (by
    rw [hg2.block (w.heap.size + 1) (by simp; have := hr.lt; omega) (fun e => by have := hown0 _ e.symm; omega), Below.heap_alloc _ _ _ hr.lt])
  refine ⟨cell_blk hbox 7 rv rfl, frozen_blk hbox 7, hrd.set _ _ _ (by omega), ?_, ?_, ?_, ?_, hlo, ?_⟩
  · rw [Below.heap_setCell w2 ⟨p, 7, none⟩ _ w.heap.size (by simp; omega)]
    exact (hb w.heap.size (by omega) (by omega) (by omega)).trans h.out
  · exact set_box (j := 7) hbox
  · have e : ic (numsS (k + 1) c).1 = ic (numsS k c).1 ++ [.int .i64 (numS (numsS k c).2).1] := by simp [numsS, ic]
    rw [e]
    obtain ⟨q1, q2⟩ := hown
    refine ⟨q1, ?_⟩
    rcases q2 with ⟨q2, _⟩ | ⟨g', cap', cur, e', hB, hgc, r⟩
    · cases q2
    · refine .inr ⟨g', cap', cur, e', hB, ?_, r⟩
      rw [Below.heap_setCell w2 ⟨p, 7, none⟩ _ g' (by simp; omega)]
      exact hgc
  · refine Below.setCell (h.below.trans ⟨?_, ?_, ?_, by omega, fun q hq => hb q (by omega) (by omega) (by omega)⟩) (by simp; omega) _
    · exact hg2.os.trans hg1.os
    · exact hg2.tape.trans hg1.tape
    · exact hg2.output.trans hg1.output
  · have : (w2.setCell ⟨p, 7, none⟩ (.slice (some ⟨g, 0, none⟩) (k + 1) cap)).heap.size = w2.heap.size := by simp [World.setCell]
    omega

theorem metS_nums (l : List UInt8) : (numsS 5 ⟨l, false⟩).1 = [(metS l).1.kind, (metS l).1.a, (metS l).1.b, (metS l).1.c, (metS l).1.d] := by
  simp only [numsS, metS, List.nil_append, List.cons_append]
theorem metS_rest (l : List UInt8) : (metS l).1.name = (textS 32 (numsS 5 ⟨l, false⟩).2).1 ∧ (metS l).1.text = (textS 1000 (textS 32 (numsS 5 ⟨l, false⟩).2).2).1 ∧ (metS l).1.list = (numsS (countS 64 (textS 1000 (textS 32 (numsS 5 ⟨l, false⟩).2).2).2).1.toNat (countS 64 (textS 1000 (textS 32 (numsS 5 ⟨l, false⟩).2).2).2).2).1 ∧
    (metS l).2 = doneS (numsS (countS 64 (textS 1000 (textS 32 (numsS 5 ⟨l, false⟩).2).2).2).1.toNat (countS 64 (textS 1000 (textS 32 (numsS 5 ⟨l, false⟩).2).2).2).2).2 := by
  simp only [numsS, metS, and_self]

structure Mid (w1 : World) (Q : Nat) (cs : Array Value) (W : World) : Prop where
  box : W.heap[w1.heap.size + 1]? = some (.cells cs 43)
  keep : ∀ q, q < w1.heap.size → q ≠ Q → W.heap[q]? = w1.heap[q]?
  size : w1.heap.size + 1 < W.heap.size
  streams : W.os = w1.os ∧ W.tape = w1.tape ∧ W.output = w1.output
theorem Mid.laid (w1 : World) (Q : Nat) (O : Obj) (cs : Array Value) : Mid w1 Q cs ((w1.alloc O).alloc (.cells cs 43)) := by
  refine ⟨?_, fun q hq _ => by rw [Below.heap_alloc _ _ _ (by simp; omega), Below.heap_alloc _ _ _ hq], by simp, rfl, rfl, rfl⟩
  have e : (w1.alloc O).heap.size = w1.heap.size + 1 := by simp
  rw [← e]
  exact heap_alloc_new _ _
theorem Mid.call {w1 W W' : World} {Q : Nat} {cs : Array Value} (h : Mid w1 Q cs W) (hQ : Q < w1.heap.size) (hg : W.grownBy W' (some Q)) : Mid w1 Q cs W' := by
  have hs := h.size
  have hs2 := hg.size
  exact ⟨(hg.block _ hs (by simp; omega)).trans h.box, fun q hq hne => (hg.block q (by omega) (by simp; exact hne)).trans (h.keep q hq hne), by omega, hg.os.trans h.streams.1, hg.tape.trans h.streams.2.1, hg.output.trans h.streams.2.2⟩
theorem Mid.store {w1 W : World} {Q : Nat} {cs : Array Value} (h : Mid w1 Q cs W) (j : Nat) (u : Value) : Mid w1 Q (cs.setIfInBounds j u) (W.setCell ⟨w1.heap.size + 1, j, none⟩ u) := by
  have hs := h.size
  refine ⟨set_box h.box, fun q hq hne => (Below.heap_setCell W ⟨w1.heap.size + 1, j, none⟩ u q (by simp; omega)).trans (h.keep q hq hne), ?_, h.streams⟩
  have : (W.setCell ⟨w1.heap.size + 1, j, none⟩ u).heap.size = W.heap.size := by simp [World.setCell]
  omega
theorem eight_frozen {w W : World} {cs : Array Value} {T : TypeId} (h : Boxed w W (.cells cs T)) (j : Nat) : W.frozen? ⟨w.heap.size, j, none⟩ = false := frozen_blk h.box j
theorem eight_keep (wr : World) (b q : Nat) (u0 u1 u2 u3 u4 u5 u6 u7 : Value) (h : q ≠ b) : ((((((((wr.setCell ⟨b, 0, none⟩ u0).setCell ⟨b, 1, none⟩ u1).setCell ⟨b, 2, none⟩ u2).setCell ⟨b, 3, none⟩ u3).setCell ⟨b, 4, none⟩ u4).setCell ⟨b, 5, none⟩ u5).setCell ⟨b, 6, none⟩ u6).setCell ⟨b, 7, none⟩ u7).heap[q]? = wr.heap[q]? := by
  have hs : ∀ (W : World) (j : Nat) (u : Value), (W.setCell ⟨b, j, none⟩ u).heap[q]? = W.heap[q]? := fun W j u => Below.heap_setCell W ⟨b, j, none⟩ u q h
  rw [hs, hs, hs, hs, hs, hs, hs, hs]
theorem eight_keepd (wr : World) (b q : Nat) (u0 u1 u2 u3 u4 u5 u6 u7 : Value) (h : q ≠ b) : ((((((((wr.setCell ⟨b, 0, none⟩ u0).setCell ⟨b, 1, none⟩ u1).setCell ⟨b, 2, none⟩ u2).setCell ⟨b, 3, none⟩ u3).setCell ⟨b, 4, none⟩ u4).setCell ⟨b, 5, none⟩ u5).setCell ⟨b, 6, none⟩ u6).setCell ⟨b, 7, none⟩ u7).drew.heap[q]? = wr.heap[q]? := by
  have hd : ∀ W : World, W.drew.heap = W.heap := fun _ => rfl
  rw [hd]
  exact eight_keep wr b q u0 u1 u2 u3 u4 u5 u6 u7 h
theorem eight_size (W : World) (b : Nat) (u0 u1 u2 u3 u4 u5 u6 u7 : Value) : ((((((((W.setCell ⟨b, 0, none⟩ u0).setCell ⟨b, 1, none⟩ u1).setCell ⟨b, 2, none⟩ u2).setCell ⟨b, 3, none⟩ u3).setCell ⟨b, 4, none⟩ u4).setCell ⟨b, 5, none⟩ u5).setCell ⟨b, 6, none⟩ u6).setCell ⟨b, 7, none⟩ u7).heap.size = W.heap.size := by simp [World.setCell]
theorem eight_below {B : Nat} {w W : World} {b : Nat} (h : Below B w W) (hb : B ≤ b) (u0 u1 u2 u3 u4 u5 u6 u7 : Value) : Below B w ((((((((W.setCell ⟨b, 0, none⟩ u0).setCell ⟨b, 1, none⟩ u1).setCell ⟨b, 2, none⟩ u2).setCell ⟨b, 3, none⟩ u3).setCell ⟨b, 4, none⟩ u4).setCell ⟨b, 5, none⟩ u5).setCell ⟨b, 6, none⟩ u6).setCell ⟨b, 7, none⟩ u7) :=
  (((((((h.setCell hb _).setCell hb _).setCell hb _).setCell hb _).setCell hb _).setCell hb _).setCell hb _).setCell hb _

set_option maxHeartbeats 3200000 in
theorem readMbody_any {w : World} (l : List UInt8) (hl : l.length ≤ maxLen) :
    Calls Try.prog 43 #[.string (strOf l)] w fun e w' => ∃ rv, e = .returned (.tuple #[.agg #[.int .i64 (metS l).1.kind, .int .i64 (metS l).1.a, .int .i64 (metS l).1.b, .int .i64 (metS l).1.c, .int .i64 (metS l).1.d, .string (strOf (metS l).1.name), .string (strOf (metS l).1.text), rv], .bool (metS l).2]) ∧ Ints w' rv (metS l).1.list ∧ (∀ q, rv.ownBlock = some q → w.heap.size ≤ q) ∧ Below w.heap.size w w' := by
  obtain ⟨n0, n1, n2, n3, n4, hn⟩ := five_list ⟨l, false⟩
  have HN := hid hn
  have HB : Hid (metS l = (⟨n0, n1, n2, n3, n4, (textS 32 (numsS 5 ⟨l, false⟩).2).1, (textS 1000 (textS 32 (numsS 5 ⟨l, false⟩).2).2).1, (numsS (countS 64 (textS 1000 (textS 32 (numsS 5 ⟨l, false⟩).2).2).2).1.toNat (countS 64 (textS 1000 (textS 32 (numsS 5 ⟨l, false⟩).2).2).2).2).1⟩,
      doneS (numsS (countS 64 (textS 1000 (textS 32 (numsS 5 ⟨l, false⟩).2).2).2).1.toNat (countS 64 (textS 1000 (textS 32 (numsS 5 ⟨l, false⟩).2).2).2).2).2)) := by
    show _ = _
    have h1 := metS_nums l
    have h2 := metS_rest l
    rw [hn] at h1
    generalize metS l = b at *
    obtain ⟨⟨a0, a1, a2, a3, a4, a5, a6, a7⟩, d⟩ := b
    simp only [List.cons.injEq, and_true] at h1 h2
    obtain ⟨rfl, rfl, rfl, rfl, rfl⟩ := h1
    rw [h2.1, h2.2.1, h2.2.2.1, h2.2.2.2]
  clear hn
  have H49 : Hid (∀ W q, Rd W q ⟨l, false⟩ → Calls Try.prog 49 #[.pointer (some ⟨q, 0, none⟩)] W fun e w' => e = .returned (.agg #[.int .i64 n0, .int .i64 n1, .int .i64 n2, .int .i64 n3, .int .i64 n4]) ∧ Rd w' q (numsS 5 ⟨l, false⟩).2 ∧ W.grownBy w' (some q)) := fun W q h => five_any h n0 n1 n2 n3 n4 HN.out
  clear HN
  generalize numsS 5 ⟨l, false⟩ = N at *
  obtain ⟨_, s5⟩ := N
  simp only at *
  have H53a : Hid (∀ W q, Rd W q s5 → Calls Try.prog 53 #[.pointer (some ⟨q, 0, none⟩), .int .i64 32] W fun e w' => e = .returned (.string (strOf (textS 32 s5).1)) ∧ Rd w' q (textS 32 s5).2 ∧ W.grownBy w' (some q)) := fun W q h => text_any h 32 (by omega) (by omega)
  generalize textS 32 s5 = N at *
  obtain ⟨nm, s6⟩ := N
  simp only at *
  have H53b : Hid (∀ W q, Rd W q s6 → Calls Try.prog 53 #[.pointer (some ⟨q, 0, none⟩), .int .i64 1000] W fun e w' => e = .returned (.string (strOf (textS 1000 s6).1)) ∧ Rd w' q (textS 1000 s6).2 ∧ W.grownBy w' (some q)) := fun W q h => text_any h 1000 (by omega) (by omega)
  generalize textS 1000 s6 = N at *
  obtain ⟨tx, s7⟩ := N
  simp only at *
  have hcr := countS_range 64 s7 (by omega)
  have H50 : Hid (∀ W q, Rd W q s7 → Calls Try.prog 50 #[.pointer (some ⟨q, 0, none⟩), .int .i64 64] W fun e w' => e = .returned (.int .i64 (countS 64 s7).1) ∧ Rd w' q (countS 64 s7).2 ∧ W.grownBy w' (some q)) := fun W q h => count_any h 64 (by omega)
  generalize countS 64 s7 = N at *
  obtain ⟨m0, c⟩ := N
  simp only at *
  obtain ⟨m, rfl⟩ := Int.eq_ofNat_of_zero_le hcr.1
  have hm : m ≤ 64 := by omega
  clear hcr
  rw [Int.toNat_natCast] at HB
  have HL := hid hl
  generalize hnm : strOf nm = NM at *
  generalize htx : strOf tx = TX at *
  have HNM := hid hnm
  have HTX := hid htx
  clear hnm htx
  go_enter Try.func43, Try.ntmps43
  go_wp2_with fail
  refine (H49.out _ _ ⟨?_, ?_⟩).mono ?_
  · have e : (w.alloc (.cells #[.int .i64 0, .int .i64 0, .int .i64 0, .int .i64 0, .int .i64 0, .string ⟨#[]⟩, .string ⟨#[]⟩, .slice none 0 0] 43)).heap.size = w.heap.size + 1 := by simp
    rw [← e]
    exact heap_alloc_new _ _
  · exact HL.out
  rintro e w1 ⟨rfl, hr1, hg1⟩
  have hs1 := hg1.size
  simp at hs1
  have HR2 : Hid (∀ O1 O2, Rd ((w1.alloc O1).alloc O2) (w.heap.size + 1) s5) := fun O1 O2 => hr1.kept (by rw [Below.heap_alloc _ _ _ (by simp; omega), Below.heap_alloc _ _ _ (by omega)])
  clear hr1
  go_wp2_with fail
  refine (H53a.out _ _ (HR2.out _ _)).mono ?_
  rintro e w2 ⟨rfl, hr2, hg2⟩
  have M2 := hid ((Mid.laid w1 (w.heap.size + 1) _ _).call (by omega) hg2)
  have b2 := cell_blk M2.out.box 5 (.string ⟨#[]⟩) rfl
  have f2 := frozen_blk M2.out.box 5
  have M2s := hid (M2.out.store 5 (.string NM))
  have HR3 := hid (hr2.set (w1.heap.size + 1) 5 (.string NM) (by omega))
  clear hg2 hr2 HR2 M2
  go_wp2_with fail
  refine (H53b.out _ _ HR3.out).mono ?_
  rintro e w3 ⟨rfl, hr3, hg3⟩
  have M3 := hid (M2s.out.call (by omega) hg3)
  have b3 := cell_blk M3.out.box 6 (.string ⟨#[]⟩) rfl
  have f3 := frozen_blk M3.out.box 6
  have M3s := hid (M3.out.store 6 (.string TX))
  have HR4 := hid (hr3.set (w1.heap.size + 1) 6 (.string TX) (by omega))
  clear hg3 hr3 HR3 M3 M2s b2 f2
  go_wp2_with fail
  refine (H50.out _ _ HR4.out).mono ?_
  rintro e w4 ⟨rfl, hr4, hg4⟩
  have M4 := hid (M3s.out.call (by omega) hg4)
  have H0 : Hid (MrAt w (w1.heap.size + 1) n0 n1 n2 n3 n4 NM TX c 0 (.slice none 0 0) w4) := MrAt.start hg1 hr4 M4.out.box M4.out.keep M4.out.size M4.out.streams
  clear hg1 hg4 hr4 HR4 H49 H50 H53a H53b hl HL hs1 M3s M4 b3 f3
  generalize w1.heap.size = p0 at *
  go_wp2
  go_loopg [26] m (fun kx s26 wr => ∃ (k : Nat) (rv : Value), k ≤ m ∧ m - k ≤ kx ∧ s26 = .int .i64 k ∧ Hid (MrAt w (p0 + 1) n0 n1 n2 n3 n4 NM TX c k rv wr))
  case atStart => exact ⟨0, _, by omega, by omega, rfl, H0⟩
  case round =>
    obtain ⟨k, rv, hk, hkx, rfl, HD⟩ := hrel
    clear H0
    by_cases hlt : k < m
    · have hlt' : (k : Int) < (m : Int) := by omega
      have hbox := cell_blk HD.out.box 7 rv rfl
      have H54 : Hid (∀ W, W.heap = wr.heap → W.os = wr.os → W.tape = wr.tape → W.output = wr.output → Calls Try.prog 54 #[.pointer (some ⟨w.heap.size + 1, 0, none⟩)] W fun e w' => e = .returned (.int .i64 (numS (numsS k c).2).1) ∧ Rd w' (w.heap.size + 1) (numS (numsS k c).2).2 ∧ wr.grownBy w' (some (w.heap.size + 1))) := fun W h1 h2 h3 h4 =>
        (number_any (HD.out.rd.kept (by rw [h1]))).mono fun e w' ⟨e1, e2, e3⟩ => ⟨e1, e2, ⟨e3.os.trans h2, e3.tape.trans h3, e3.output.trans h4, by have := e3.size; rw [h1] at this; exact this, fun q hq hne => by have := e3.block q (by rw [h1]; exact hq) hne; rw [h1] at this; exact this⟩⟩
      have HX : Hid (∀ w1 w2 g cap O, Rd w1 (w.heap.size + 1) (numS (numsS k c).2).2 → wr.grownBy w1 (some (w.heap.size + 1)) → w2.ownsRow (p0 + 1 + 1) 3 1 (.slice (some ⟨g, 0, none⟩) (k + 1) cap) (k + 1) (ic (numsS k c).1 ++ [.int .i64 (numS (numsS k c).2).1]) → (w1.alloc O).grownBy w2 rv.ownBlock →
          w2.cell? ⟨p0 + 1, 7, none⟩ = some rv ∧ w2.frozen? ⟨p0 + 1, 7, none⟩ = false ∧ MrAt w (p0 + 1) n0 n1 n2 n3 n4 NM TX c (k + 1) (.slice (some ⟨g, 0, none⟩) (k + 1) cap) (w2.setCell ⟨p0 + 1, 7, none⟩ (.slice (some ⟨g, 0, none⟩) (k + 1) cap))) := fun w1 w2 g cap O a1 a2 a3 a4 => HD.out.next a1 a2 a3 a4
      have H4 : Hid (∀ w1, wr.grownBy w1 (some (w.heap.size + 1)) → ∀ O, (w1.alloc O).ownsRow (p0 + 1 + 1) 3 1 rv k (ic (numsS k c).1) ∧ w1.cell? ⟨p0 + 1, 7, none⟩ = some rv) := fun w1 h1 O => HD.out.row4 h1 O
      have hp0 := HD.out.hi
      have hkm : k ≤ 64 := by omega
      generalize ic (numsS k c).1 = F at *
      generalize numS (numsS k c).2 = N at *
      obtain ⟨r, s1⟩ := N
      simp only at *
      obtain ⟨i0, hi0, hz0, hz1, hz2⟩ := info3
      go_wp2
      go_region_law (first
        | (refine step_call54 rfl 4 rfl (.pointer (some ⟨w.heap.size + 1, 0, none⟩)) (by simp [Act.eval, Act.put]) (H54.out wr.drew rfl rfl rfl rfl) ?_; rintro e w4 ⟨rfl, hr4, hg4⟩; refine ⟨_, rfl, ?_⟩; have d4 := (H4.out w4 hg4 (.cells #[] 0)).2; have d4b := fun O => (World.cell?_of_block (a := ⟨p0 + 1, 7, none⟩) (Below.heap_alloc w4 O (p0 + 1) (by have := hg4.size; omega))).trans d4; have hs4 := hg4.size)
        | (refine step_append_lies _ (by rfl) (.tmp 29) (.tmp 31) 41 (by rfl) (p0 + 1 + 1) 3 i0 _ 1 8 Try.underlying41 hi0 hz0 hz1 hz2 rfl (by decide) rv k F (by simp [Act.eval, Act.put]) (by exact (H4.out w4 hg4 _).1) ⟨w4.heap.size, 0, none⟩ 1 1 [.int .i64 r] (by simp [Act.eval, Act.put]) rfl (by exact one_cell rfl) (by simp [Value.oneCell']) (by decide) (by unfold maxLen; omega) (by omega) (by simp; omega) (w4.heap.size + 1) (by simp) ?_; intro g cap w5 hown5 hg5 hat5 hlt5; obtain ⟨e1, e2, e3⟩ := HX.out w4 w5 g cap _ hr4 hg4 hown5 ⟨hg5.os, hg5.tape, hg5.output, hg5.size, hg5.block⟩; have E3 := hid e3; clear e3)
        | fail)
      all_goals
        go_wp2
        go_roundg (m - (k + 1))
        case measure => omega
        case rel => exact ⟨k + 1, _, by omega, Nat.le_refl _, by go_num, E3⟩
    · have hlt' : ¬ (k : Int) < (m : Int) := by omega
      have hkm : k = m := by omega
      subst hkm
      have hrows := HD.out.row
      obtain ⟨ra, rl, rc, hrv⟩ : ∃ ra rl rc, rv = .slice ra rl rc := by
        rcases hrows.2 with ⟨e, _⟩ | ⟨g, cap, cur, e, _⟩
        · exact ⟨_, _, _, e⟩
        · exact ⟨_, _, _, e⟩
      subst hrv
      have hb := HD.out.box
      have hlo := HD.out.lo
      have X8 : Hid (Boxed w wr (.cells #[.int .i64 0, .int .i64 0, .int .i64 0, .int .i64 0, .int .i64 0, .string ⟨#[]⟩, .string ⟨#[]⟩, .slice none 0 0] 43)) := ⟨HD.out.below, HD.out.out⟩
      have b0 := cell_blk hb 0 (.int .i64 n0) rfl
      have b1 := cell_blk hb 1 (.int .i64 n1) rfl
      have b2 := cell_blk hb 2 (.int .i64 n2) rfl
      have b3 := cell_blk hb 3 (.int .i64 n3) rfl
      have b4 := cell_blk hb 4 (.int .i64 n4) rfl
      have b5 := cell_blk hb 5 (.string NM) rfl
      have b6 := cell_blk hb 6 (.string TX) rfl
      have b7 := cell_blk hb 7 (.slice ra rl rc) rfl
      obtain ⟨o0, o1, o2, o3, o4, o5, o6, o7⟩ := eight X8.out
      have f0 := eight_frozen X8.out 0
      have f1 := eight_frozen X8.out 1
      have f2 := eight_frozen X8.out 2
      have f3 := eight_frozen X8.out 3
      have f4 := eight_frozen X8.out 4
      have f5 := eight_frozen X8.out 5
      have f6 := eight_frozen X8.out 6
      have f7 := eight_frozen X8.out 7
      have H52 : Hid (∀ W : World, W.heap = wr.heap → Calls Try.prog 52 #[.pointer (some ⟨w.heap.size + 1, 0, none⟩)] W fun e w' => e = .returned (.bool (doneS (numsS k c).2)) ∧ W = w') := fun W h => done_any (HD.out.rd.kept (by rw [h]))
      have hne : ¬ (w.heap.size = p0 + 1) := by omega
      have hne2 : ¬ (p0 + 1 = w.heap.size) := by omega
      clear hb hrows
      go_wp2
      go_region_held3 (fun w' => w'.cell? ⟨p0 + 1, 0, none⟩ = some (.int .i64 n0) ∧ w'.cell? ⟨p0 + 1, 1, none⟩ = some (.int .i64 n1) ∧ w'.cell? ⟨p0 + 1, 2, none⟩ = some (.int .i64 n2) ∧ w'.cell? ⟨p0 + 1, 3, none⟩ = some (.int .i64 n3) ∧ w'.cell? ⟨p0 + 1, 4, none⟩ = some (.int .i64 n4) ∧ w'.cell? ⟨p0 + 1, 5, none⟩ = some (.string NM) ∧ w'.cell? ⟨p0 + 1, 6, none⟩ = some (.string TX) ∧ w'.cell? ⟨p0 + 1, 7, none⟩ = some (.slice ra rl rc)) (go_keep)
        (first
        | (go_at_call 52; refine (H52.out wr.drew rfl).mono ?_; rintro e w4 ⟨rfl, rfl⟩)
        | fail)
      go_wp2
      have hlen := numsS_length k c
      have hrow := HD.out.row
      have HOWN : Hid (∀ q, (Value.slice ra rl rc).ownBlock = some q → p0 + 1 + 1 ≤ q) := fun q hq => (World.ownsRow.lt hrow q hq).1
      refine bodyPost_ret (v := .tuple #[.agg #[.int .i64 n0, .int .i64 n1, .int .i64 n2, .int .i64 n3, .int .i64 n4, .string NM, .string TX, .slice ra rl rc], .bool (doneS (numsS k c).2)]) (by simp [results, Try.results43, go_sem, o0, o1, o2, o3, o4, o5, o6, o7]) rfl ⟨.slice ra rl rc, by rw [HB.out, HNM.out, HTX.out], ?_, fun q hq => by have := HOWN.out q hq; omega, ?_⟩
      · rw [HB.out]
        refine ints_of_row (B := p0 + 1 + 1) ?_
        simp only
        rw [hlen]
        refine ownsRow_kept hrow (fun q hq => ?_)
        have hqn : q ≠ w.heap.size := by have := HOWN.out q hq; omega
        exact eight_keepd wr w.heap.size q _ _ _ _ _ _ _ _ hqn
      · exact (eight_below HD.out.below (Nat.le_refl _) _ _ _ _ _ _ _ _).drew
end Go.Proofs.Ytcmmfmibgnebpaa
