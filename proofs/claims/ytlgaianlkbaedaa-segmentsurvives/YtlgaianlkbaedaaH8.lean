/- A batch's body, read: readBatchBody. -/
import Derived.Test.YtlgaianlkbaedaaH7
import Derived.Deep.RegionHeld3
import Derived.Deep.RegionLaw
import Derived.Deep.AppendLies
namespace Go.Proofs.Ytlgaianlkbaedaa
open Go.RowKit Go.Maps
set_option linter.unusedSimpArgs false
set_option linter.unusedVariables false
set_option maxRecDepth 100000

def recCells (r : Rec) : List Value := [.string (strOf r.key), .string (strOf r.val), .int .i64 r.time]
def flatR : List Rec → List Value
  | [] => []
  | r :: s => recCells r ++ flatR s
theorem flatR_append : ∀ l m : List Rec, flatR (l ++ m) = flatR l ++ flatR m
  | [], m => rfl
  | r :: s, m => by simp [flatR, flatR_append s m]
theorem flatR_length : ∀ l : List Rec, (flatR l).length = l.length * 3
  | [] => rfl
  | r :: s => by simp [flatR, recCells, flatR_length s]; omega
theorem flatR_at : ∀ (l : List Rec) (i : Nat) (h : i < l.length), (flatR l)[i * 3]? = some (.string (strOf l[i].key)) ∧ (flatR l)[i * 3 + 1]? = some (.string (strOf l[i].val)) ∧ (flatR l)[i * 3 + 2]? = some (.int .i64 l[i].time)
  | r :: s, 0, _ => by simp [flatR, recCells]
  | r :: s, i + 1, h => by
    have ih := flatR_at s i (by simpa using h)
    have e : ∀ j, (flatR (r :: s))[(i + 1) * 3 + j]? = (flatR s)[i * 3 + j]? := fun j => by
      have e1 : (i + 1) * 3 + j = 3 + (i * 3 + j) := by omega
      rw [e1]
      show ([_, _, _] ++ flatR s)[3 + (i * 3 + j)]? = _
      rw [List.getElem?_append_right (by simp)]
      congr 1
      simp
    have e0 := e 0
    simp only [Nat.add_zero] at e0
    simp only [List.getElem_cons_succ]
    exact ⟨by rw [e0]; exact ih.1, by rw [e 1]; exact ih.2.1, by rw [e 2]; exact ih.2.2⟩

/-- A row of records of the call's own is a slice of records. -/
theorem recs_of_row {w : World} {B : Nat} {v : Value} {rs : List Rec} (h : w.ownsRow B 68 3 v rs.length (flatR rs)) (hok : ∀ r ∈ rs, r.ok) : Recs w v rs := by
  obtain ⟨_, h2⟩ := h
  rcases h2 with ⟨rfl, hn⟩ | ⟨g, cap, cur, rfl, hB, hg, hc, hm, hs, ht⟩
  · have : rs = [] := List.eq_nil_of_length_eq_zero hn
    subst this
    exact ⟨⟨none, 0, rfl, .inl rfl⟩, hok, by simp⟩
  · refine ⟨⟨_, cap, rfl, .inr ⟨g, 0, rfl, ?_, fun i hi => ?_⟩⟩, hok, Nat.le_trans hc hm⟩
    · rcases Nat.lt_or_ge g w.heap.size with h1 | h1
      · exact h1
      · rw [Array.getElem?_eq_none h1] at hg; cases hg
    · have hF := flatR_at rs i hi
      have hcell : ∀ j u, j < 3 → (flatR rs)[i * 3 + j]? = some u → w.cell? ⟨g, 0 + i * 3 + j, none⟩ = some u := fun j u hj hu => by
        refine cell_blk hg _ u ?_
        rw [← ht, List.getElem?_take, if_pos (by omega)] at hu
        rw [Nat.zero_add]
        simpa using hu
      have h0 := hcell 0 _ (by omega) (by simpa using hF.1)
      exact ⟨by simpa using h0, hcell 1 _ (by omega) hF.2.1, hcell 2 _ (by omega) hF.2.2⟩

theorem numS_i64 (s : RS) : I64 (numS s).1 := by
  have := readL_range s.rest
  unfold numS I64
  split
  · exact this.1
  · simp
theorem textS_len (most : Int) (s : RS) (h0 : 0 ≤ most) (h : most ≤ 1000) : (textS most s).1.length ≤ 1000 := by
  have := countS_range most s h0
  unfold textS
  split
  · simp
  · simp; omega
theorem recS_ok (s : RS) : I64 (recS s).1.time ∧ (recS s).1.key.length ≤ 1000 ∧ (recS s).1.val.length ≤ 1000 := ⟨numS_i64 s, textS_len 1000 _ (by omega) (by omega), textS_len 1000 _ (by omega) (by omega)⟩
theorem recsS_length : ∀ (n : Nat) (s : RS), (recsS n s).1.length = n
  | 0, s => rfl
  | n + 1, s => by simp [recsS, recsS_length n s]
theorem recsS_ok : ∀ (n : Nat) (s : RS), ∀ r ∈ (recsS n s).1, I64 r.time ∧ r.key.length ≤ 1000 ∧ r.val.length ≤ 1000
  | 0, s, r, h => by simp [recsS] at h
  | n + 1, s, r, h => by
    simp only [recsS, List.mem_append, List.mem_singleton] at h
    rcases h with h | rfl
    · exact recsS_ok n s r h
    · exact recS_ok _
theorem rec_ok {r : Rec} (h : I64 r.time ∧ r.key.length ≤ 1000 ∧ r.val.length ≤ 1000) : r.ok := ⟨h.1, by unfold maxLen; omega, by unfold maxLen; omega⟩

theorem info51 : ∃ i, Try.prog.info? 68 = some i ∧ i.zero = some (.agg #[.string ⟨#[]⟩, .string ⟨#[]⟩, .int .i64 0]) ∧ i.size = 3 ∧ i.bytes = 40 := ⟨_, rfl, rfl, rfl, rfl⟩

/-- Where readBatchBody stands behind k records. -/
structure BrAt (w : World) (p : Nat) (n0 n1 n2 n3 n4 : Int) (c : RS) (k : Nat) (rv : Value) (wr : World) : Prop where
  rd : Rd wr (w.heap.size + 1) (recsS k c).2
  out : wr.heap[w.heap.size]? = some (.cells #[.int .i64 0, .int .i64 0, .int .i64 0, .int .i64 0, .int .i64 0, .slice none 0 0] 34)
  box : wr.heap[p]? = some (.cells #[.int .i64 n0, .int .i64 n1, .int .i64 n2, .int .i64 n3, .int .i64 n4, rv] 34)
  row : wr.ownsRow (p + 1) 68 3 rv k (flatR (recsS k c).1)
  below : Below w.heap.size w wr
  lo : w.heap.size + 1 < p
  hi : p < wr.heap.size

theorem bodyS_nums (l : List UInt8) : (numsS 5 ⟨l, false⟩).1 = [(bodyS l).1.base, (bodyS l).1.epoch, (bodyS l).1.pid, (bodyS l).1.pidEpoch, (bodyS l).1.seq] := by
  simp only [numsS, bodyS, List.nil_append, List.cons_append]
theorem bodyS_recs (l : List UInt8) : (bodyS l).1.recs = (recsS (countS 64 (numsS 5 ⟨l, false⟩).2).1.toNat (countS 64 (numsS 5 ⟨l, false⟩).2).2).1 ∧ (bodyS l).2 = doneS (recsS (countS 64 (numsS 5 ⟨l, false⟩).2).1.toNat (countS 64 (numsS 5 ⟨l, false⟩).2).2).2 := by
  simp only [numsS, bodyS, and_self]

theorem ownsRow_kept {w w' : World} {B T z n : Nat} {v : Value} {xs : List Value} (h : w.ownsRow B T z v n xs) (hk : ∀ q, v.ownBlock = some q → w'.heap[q]? = w.heap[q]?) : w'.ownsRow B T z v n xs := by
  obtain ⟨h1, h2⟩ := h
  refine ⟨h1, ?_⟩
  rcases h2 with h2 | ⟨g, cap, cur, e, hB, hg, r⟩
  · exact .inl h2
  · exact .inr ⟨g, cap, cur, e, hB, (hk g (by rw [e]; rfl)).trans hg, r⟩
theorem BrAt.row4 {w : World} {p : Nat} {n0 n1 n2 n3 n4 : Int} {c : RS} {k : Nat} {rv : Value} {wr : World} (h : BrAt w p n0 n1 n2 n3 n4 c k rv wr) {w1 : World} (hg1 : wr.grownBy w1 (some (w.heap.size + 1))) (O : Obj) : (w1.alloc O).ownsRow (p + 1) 68 3 rv k (flatR (recsS k c).1) ∧ w1.cell? ⟨p, 5, none⟩ = some rv := by
  have hlo := h.lo
  have hhi := h.hi
  have hs := hg1.size
  refine ⟨ownsRow_kept h.row (fun q hq => ?_), cell_blk ((hg1.block p hhi (by simp; omega)).trans h.box) 5 rv rfl⟩
  have hq2 := World.ownsRow.lt h.row q hq
  rw [Below.heap_alloc _ _ _ (by omega), hg1.block q hq2.2 (by simp; omega)]
theorem rec_news {w1 : World} {b : Nat} (r : Rec) (hb : b = w1.heap.size) : ∀ (j : Nat) (u : Value), (recCells r)[j]? = some u → (w1.alloc (.cells #[.string (strOf r.key), .string (strOf r.val), .int .i64 r.time] 68)).cell? ((⟨b, 0, none⟩ : Addr).add j) = some u := fun j u hu => by
  have hadd : (⟨b, 0, none⟩ : Addr).add j = ⟨b, j, none⟩ := by unfold Addr.add; split <;> simp_all
  rw [hadd]
  exact cell_new hb (by simpa [recCells] using hu)

theorem six_keep (wr : World) (b q : Nat) (u0 u1 u2 u3 u4 u5 : Value) (h : q ≠ b) : ((((((wr.setCell ⟨b, 0, none⟩ u0).setCell ⟨b, 1, none⟩ u1).setCell ⟨b, 2, none⟩ u2).setCell ⟨b, 3, none⟩ u3).setCell ⟨b, 4, none⟩ u4).setCell ⟨b, 5, none⟩ u5).drew.heap[q]? = wr.heap[q]? := by
  have hs : ∀ (W : World) (j : Nat) (u : Value), (W.setCell ⟨b, j, none⟩ u).heap[q]? = W.heap[q]? := fun W j u => Below.heap_setCell W ⟨b, j, none⟩ u q h
  have hd : ∀ W : World, W.drew.heap = W.heap := fun _ => rfl
  rw [hd, hs, hs, hs, hs, hs, hs]

theorem step_call51 {ops : Array Oper} {o : Oper} {a : Act} {w : World} {K : Act → World → Prop} {Q : Exit → Act → World → Prop} {E : Prop} {R : Ending → World → Prop} (hg : o.guard = none) (x : Nat)
    (ho : o.op = .call { callee := .value (.func 80), args := #[.tmp x], argTypes := #[121] }) (v : Value) (hx : a.tmps[x]?.getD undef = v) (hc : Calls Try.prog 80 #[v] w R) (hR : ∀ e w', R e w' → ∃ u, e = .returned u ∧ K (a.put o.dst u) w') :
    if Region.wanted o (yielded ops a.tmps) = true then Oper.wp Try.prog o a w K Q else E := by
  have hw : Region.wanted o (yielded ops a.tmps) = true := by simp [Region.wanted, hg]
  rw [if_pos hw]
  unfold Oper.wp
  simp only [go_sem, ho, hx]
  simp [go_sem, hx]
  refine hc.mono ?_
  rintro e w' hr
  obtain ⟨u, rfl, hK⟩ := hR e w' hr
  exact hK

theorem BrAt.start {w w1 w3 : World} {l : List UInt8} {n0 n1 n2 n3 n4 : Int} {s5 c : RS} (hg1 : ((w.alloc (.cells #[.int .i64 0, .int .i64 0, .int .i64 0, .int .i64 0, .int .i64 0, .slice none 0 0] 34)).alloc (.cells #[.string (strOf l), .bool false] 121)).grownBy w1 (some (w.heap.size + 1)))
    (hr3 : Rd w3 (w.heap.size + 1) c) (hg3 : ((w1.alloc (.cells #[.int .i64 n0, .int .i64 n1, .int .i64 n2, .int .i64 n3, .int .i64 n4] 105)).alloc (.cells #[.int .i64 n0, .int .i64 n1, .int .i64 n2, .int .i64 n3, .int .i64 n4, .slice none 0 0] 34)).grownBy w3 (some (w.heap.size + 1))) : BrAt w (w1.heap.size + 1) n0 n1 n2 n3 n4 c 0 (.slice none 0 0) w3 := by
  have h1 := hg1.size
  have h3 := hg3.size
  simp at h1 h3
  refine ⟨hr3, ?_, ?_, World.ownsRow_nil _ _ _ _, ?_, by omega, by omega⟩
  · rw [hg3.block w.heap.size (by simp; omega) (by simp), Below.heap_alloc _ _ _ (by simp; omega), Below.heap_alloc _ _ _ (by omega), hg1.block w.heap.size (by simp; omega) (by simp), Below.heap_alloc _ _ _ (by simp)]
    exact heap_alloc_new w _
  · rw [hg3.block (w1.heap.size + 1) (by simp) (by simp; omega)]
    have e : (w1.alloc (.cells #[.int .i64 n0, .int .i64 n1, .int .i64 n2, .int .i64 n3, .int .i64 n4] 105)).heap.size = w1.heap.size + 1 := by simp
    rw [← e]
    exact heap_alloc_new _ _
  · refine ⟨?_, ?_, ?_, by omega, fun k hk => ?_⟩
    · exact hg3.os.trans hg1.os
    · exact hg3.tape.trans hg1.tape
    · exact hg3.output.trans hg1.output
    · rw [hg3.block k (by simp; omega) (by simp; omega), Below.heap_alloc _ _ _ (by simp; omega), Below.heap_alloc _ _ _ (by omega), hg1.block k (by simp; omega) (by simp; omega), Below.heap_alloc _ _ _ (by simp; omega), Below.heap_alloc _ _ _ hk]

theorem BrAt.next {w : World} {p : Nat} {n0 n1 n2 n3 n4 : Int} {c : RS} {k : Nat} {rv : Value} {wr : World} (h : BrAt w p n0 n1 n2 n3 n4 c k rv wr) {w1 w2 : World} (hd : w1.heap = w1.heap) (hr : Rd w1 (w.heap.size + 1) (recS (recsS k c).2).2) (hg1 : wr.grownBy w1 (some (w.heap.size + 1)))
    {g cap : Nat} {O : Obj} (hown : w2.ownsRow (p + 1) 68 3 (.slice (some ⟨g, 0, none⟩) (k + 1) cap) (k + 1) (flatR (recsS k c).1 ++ recCells (recS (recsS k c).2).1)) (hg2 : (w1.alloc O).grownBy w2 rv.ownBlock) :
    w2.cell? ⟨p, 5, none⟩ = some rv ∧ w2.frozen? ⟨p, 5, none⟩ = false ∧ BrAt w p n0 n1 n2 n3 n4 c (k + 1) (.slice (some ⟨g, 0, none⟩) (k + 1) cap) (w2.setCell ⟨p, 5, none⟩ (.slice (some ⟨g, 0, none⟩) (k + 1) cap)) := by
  have hlo := h.lo
  have hhi := h.hi
  have hs1 := hg1.size
  have hs2 := hg2.size
  simp at hs2
  have hown0 : ∀ q, rv.ownBlock = some q → p + 1 ≤ q := fun q hq => (World.ownsRow.lt h.row q hq).1
  have hb : ∀ q, q < wr.heap.size → q ≠ w.heap.size + 1 → q ≤ p → w2.heap[q]? = wr.heap[q]? := fun q hq hne hp => by
    rw [hg2.block q (by simp; omega) (fun e => by have := hown0 q e.symm; omega), Below.heap_alloc _ _ _ (by omega), hg1.block q hq (fun e => hne (by cases e; rfl))]
  have hbox : w2.heap[p]? = some (.cells #[.int .i64 n0, .int .i64 n1, .int .i64 n2, .int .i64 n3, .int .i64 n4, rv] 34) := (hb p hhi (by omega) (Nat.le_refl _)).trans h.box
  have hrd : Rd w2 (w.heap.size + 1) (recS (recsS k c).2).2 := hr.kept (by
    rw [hg2.block (w.heap.size + 1) (by simp; have := hr.lt; omega) (fun e => by have := hown0 _ e.symm; omega), Below.heap_alloc _ _ _ hr.lt])
  refine ⟨cell_blk hbox 5 rv rfl, frozen_blk hbox 5, hrd.set _ _ _ (by omega), ?_, ?_, ?_, ?_, hlo, ?_⟩
  · rw [Below.heap_setCell w2 ⟨p, 5, none⟩ _ w.heap.size (by simp; omega)]
    exact (hb w.heap.size (by omega) (by omega) (by omega)).trans h.out
  · rw [setCell_eq_setRow w2 p 5 _ 34 (0, 0) _ hbox, setRow_heap w2 p _ _ 34 (0, 0) hbox]
    rfl
  · have e : flatR (recsS (k + 1) c).1 = flatR (recsS k c).1 ++ recCells (recS (recsS k c).2).1 := by simp [recsS, flatR_append, flatR]
    rw [e]
    obtain ⟨q1, q2⟩ := hown
    refine ⟨q1, ?_⟩
    rcases q2 with ⟨q2, _⟩ | ⟨g', cap', cur, e', hB, hgc, r⟩
    · cases q2
    · refine .inr ⟨g', cap', cur, e', hB, ?_, r⟩
      rw [Below.heap_setCell w2 ⟨p, 5, none⟩ _ g' (by simp; omega)]
      exact hgc
  · refine Below.setCell (h.below.trans ⟨?_, ?_, ?_, by omega, fun q hq => hb q (by omega) (by omega) (by omega)⟩) (by simp; omega) _
    · exact hg2.os.trans hg1.os
    · exact hg2.tape.trans hg1.tape
    · exact hg2.output.trans hg1.output
  · have : (w2.setCell ⟨p, 5, none⟩ (.slice (some ⟨g, 0, none⟩) (k + 1) cap)).heap.size = w2.heap.size := by simp [World.setCell]
    omega

set_option maxHeartbeats 1600000 in
theorem readBody_any {w : World} (l : List UInt8) (hl : l.length ≤ maxLen) :
    Calls Try.prog 72 #[.string (strOf l)] w fun e w' => ∃ rv, e = .returned (.tuple #[.agg #[.int .i64 (bodyS l).1.base, .int .i64 (bodyS l).1.epoch, .int .i64 (bodyS l).1.pid, .int .i64 (bodyS l).1.pidEpoch, .int .i64 (bodyS l).1.seq, rv], .bool (bodyS l).2]) ∧ Recs w' rv (bodyS l).1.recs ∧ (∀ q, rv.ownBlock = some q → w.heap.size ≤ q) ∧ Below w.heap.size w w' := by
  obtain ⟨n0, n1, n2, n3, n4, hn⟩ := five_list ⟨l, false⟩
  have HN := hid hn
  have HB : Hid (bodyS l = (⟨n0, n1, n2, n3, n4, (recsS (countS 64 (numsS 5 ⟨l, false⟩).2).1.toNat (countS 64 (numsS 5 ⟨l, false⟩).2).2).1⟩, doneS (recsS (countS 64 (numsS 5 ⟨l, false⟩).2).1.toNat (countS 64 (numsS 5 ⟨l, false⟩).2).2).2)) := by
    show _ = _
    have h1 := bodyS_nums l
    have h2 := bodyS_recs l
    rw [hn] at h1
    generalize bodyS l = b at *
    obtain ⟨⟨a0, a1, a2, a3, a4, rs⟩, d⟩ := b
    simp only [List.cons.injEq, and_true] at h1 h2
    obtain ⟨rfl, rfl, rfl, rfl, rfl⟩ := h1
    rw [h2.1, h2.2]
  clear hn
  have H49 : Hid (∀ W q, Rd W q ⟨l, false⟩ → Calls Try.prog 78 #[.pointer (some ⟨q, 0, none⟩)] W fun e w' => e = .returned (.agg #[.int .i64 n0, .int .i64 n1, .int .i64 n2, .int .i64 n3, .int .i64 n4]) ∧ Rd w' q (numsS 5 ⟨l, false⟩).2 ∧ W.grownBy w' (some q)) := fun W q h => five_any h n0 n1 n2 n3 n4 HN.out
  clear HN
  generalize numsS 5 ⟨l, false⟩ = N at *
  obtain ⟨_, s5⟩ := N
  simp only at *
  have hcr := countS_range 64 s5 (by omega)
  have H50 : Hid (∀ W q, Rd W q s5 → Calls Try.prog 79 #[.pointer (some ⟨q, 0, none⟩), .int .i64 64] W fun e w' => e = .returned (.int .i64 (countS 64 s5).1) ∧ Rd w' q (countS 64 s5).2 ∧ W.grownBy w' (some q)) := fun W q h => count_any h 64 (by omega)
  generalize countS 64 s5 = N at *
  obtain ⟨m0, c⟩ := N
  simp only at *
  obtain ⟨m, rfl⟩ := Int.eq_ofNat_of_zero_le hcr.1
  have hm : m ≤ 64 := by omega
  clear hcr
  rw [Int.toNat_natCast] at HB
  go_enter Try.func72, Try.ntmps72
  have HL := hid hl
  go_wp2_with fail
  refine (H49.out _ _ ⟨?_, ?_⟩).mono ?_
  · have e : (w.alloc (.cells #[.int .i64 0, .int .i64 0, .int .i64 0, .int .i64 0, .int .i64 0, .slice none 0 0] 34)).heap.size = w.heap.size + 1 := by simp
    rw [← e]
    exact heap_alloc_new _ _
  · exact HL.out
  rintro e w1 ⟨rfl, hr1, hg1⟩
  have hs1 := hg1.size
  simp at hs1
  have HR2 : Hid (∀ O1 O2, Rd ((w1.alloc O1).alloc O2) (w.heap.size + 1) s5) := fun O1 O2 => hr1.kept (by rw [Below.heap_alloc _ _ _ (by simp; omega), Below.heap_alloc _ _ _ (by omega)])
  clear hr1
  go_wp2_with fail
  refine (H50.out _ _ (HR2.out _ _)).mono ?_
  rintro e w3 ⟨rfl, hr3, hg3⟩
  have H0 := hid (BrAt.start (s5 := s5) hg1 hr3 hg3)
  clear hg1 hg3 hr3 HR2 H49 H50 hl HL hs1
  generalize w1.heap.size = p0 at *
  go_wp2
  go_loopg [22] m (fun kx s22 wr => ∃ (k : Nat) (rv : Value), k ≤ m ∧ m - k ≤ kx ∧ s22 = .int .i64 k ∧ Hid (BrAt w (p0 + 1) n0 n1 n2 n3 n4 c k rv wr))
  case atStart => exact ⟨0, _, by omega, by omega, rfl, H0⟩
  case round =>
    obtain ⟨k, rv, hk, hkx, rfl, HD⟩ := hrel
    clear H0
    by_cases hlt : k < m
    · have hlt' : (k : Int) < (m : Int) := by omega
      have hbox := cell_blk HD.out.box 5 rv rfl
      have HN := hid HD.out.row
      have H51 : Hid (∀ W, W.heap = wr.heap → W.os = wr.os → W.tape = wr.tape → W.output = wr.output → Calls Try.prog 80 #[.pointer (some ⟨w.heap.size + 1, 0, none⟩)] W fun e w' => e = .returned (.agg #[.string (strOf (recS (recsS k c).2).1.key), .string (strOf (recS (recsS k c).2).1.val), .int .i64 (recS (recsS k c).2).1.time]) ∧ Rd w' (w.heap.size + 1) (recS (recsS k c).2).2 ∧ wr.grownBy w' (some (w.heap.size + 1))) := fun W h1 h2 h3 h4 =>
        (record_any (HD.out.rd.kept (by rw [h1]))).mono fun e w' ⟨e1, e2, e3⟩ => ⟨e1, e2, ⟨e3.os.trans h2, e3.tape.trans h3, e3.output.trans h4, by have := e3.size; rw [h1] at this; exact this, fun q hq hne => by have := e3.block q (by rw [h1]; exact hq) hne; rw [h1] at this; exact this⟩⟩
      have HX : Hid (∀ w1 w2 g cap O, Rd w1 (w.heap.size + 1) (recS (recsS k c).2).2 → wr.grownBy w1 (some (w.heap.size + 1)) → w2.ownsRow (p0 + 1 + 1) 68 3 (.slice (some ⟨g, 0, none⟩) (k + 1) cap) (k + 1) (flatR (recsS k c).1 ++ recCells (recS (recsS k c).2).1) → (w1.alloc O).grownBy w2 rv.ownBlock →
          w2.cell? ⟨p0 + 1, 5, none⟩ = some rv ∧ w2.frozen? ⟨p0 + 1, 5, none⟩ = false ∧ BrAt w (p0 + 1) n0 n1 n2 n3 n4 c (k + 1) (.slice (some ⟨g, 0, none⟩) (k + 1) cap) (w2.setCell ⟨p0 + 1, 5, none⟩ (.slice (some ⟨g, 0, none⟩) (k + 1) cap))) := fun w1 w2 g cap O a1 a2 a3 a4 => HD.out.next rfl a1 a2 a3 a4
      have H4 : Hid (∀ w1, wr.grownBy w1 (some (w.heap.size + 1)) → ∀ O, (w1.alloc O).ownsRow (p0 + 1 + 1) 68 3 rv k (flatR (recsS k c).1) ∧ w1.cell? ⟨p0 + 1, 5, none⟩ = some rv) := fun w1 h1 O => HD.out.row4 h1 O
      have hp0 := HD.out.hi
      have hkm : k ≤ 64 := by omega
      generalize flatR (recsS k c).1 = F at *
      generalize recS (recsS k c).2 = N at *
      obtain ⟨r, s1⟩ := N
      simp only at *
      obtain ⟨i0, hi0, hz0, hz1, hz2⟩ := info51
      have hcell : Hid (∀ u ∈ recCells r, u.oneCell' = true) := by intro u hu; simp [recCells] at hu; rcases hu with rfl | rfl | rfl <;> rfl
      clear HN
      go_wp2
      go_region_law (first
        | (refine step_call51 rfl 4 rfl (.pointer (some ⟨w.heap.size + 1, 0, none⟩)) (by simp [Act.eval, Act.put]) (H51.out wr.drew rfl rfl rfl rfl) ?_; rintro e w4 ⟨rfl, hr4, hg4⟩; refine ⟨_, rfl, ?_⟩; have d4 := (H4.out w4 hg4 (.cells #[] 0)).2; have d4b := fun O => (World.cell?_of_block (a := ⟨p0 + 1, 5, none⟩) (Below.heap_alloc w4 O (p0 + 1) (by have := hg4.size; omega))).trans d4; have hs4 := hg4.size)
        | (refine step_append_lies _ (by rfl) (.tmp 25) (.tmp 27) 32 (by rfl) (p0 + 1 + 1) 68 i0 _ 3 40 Try.underlying32 hi0 hz0 hz1 hz2 rfl (by decide) rv k F (by simp [Act.eval, Act.put]) (by exact (H4.out w4 hg4 _).1) ⟨w4.heap.size, 0, none⟩ 1 1 (recCells r) (by simp [Act.eval, Act.put]) rfl (by exact rec_news r rfl) hcell.out (by decide) (by unfold maxLen; omega) (by omega) (by simp; omega) (w4.heap.size + 1) (by simp) ?_; intro g cap w5 hown5 hg5 hat5 hlt5; obtain ⟨e1, e2, e3⟩ := HX.out w4 w5 g cap _ hr4 hg4 hown5 ⟨hg5.os, hg5.tape, hg5.output, hg5.size, hg5.block⟩; have E3 := hid e3; clear e3)
        | fail)
      all_goals
        go_wp2
        go_roundg (m - (k + 1))
        case measure => omega
        case rel => exact ⟨k + 1, _, by omega, Nat.le_refl _, by go_num, E3⟩
    · have hlt' : ¬ (k : Int) < (m : Int) := by omega
      have hkm : k = m := by omega
      subst hkm
      have hb := HD.out.box
      have ho := HD.out.out
      have hlo := HD.out.lo
      have b0 := cell_blk hb 0 (.int .i64 n0) rfl
      have b1 := cell_blk hb 1 (.int .i64 n1) rfl
      have b2 := cell_blk hb 2 (.int .i64 n2) rfl
      have b3 := cell_blk hb 3 (.int .i64 n3) rfl
      have b4 := cell_blk hb 4 (.int .i64 n4) rfl
      have b5 := cell_blk hb 5 rv rfl
      have o0 := cell_blk ho 0 (.int .i64 0) rfl
      have o1 := cell_blk ho 1 (.int .i64 0) rfl
      have o2 := cell_blk ho 2 (.int .i64 0) rfl
      have o3 := cell_blk ho 3 (.int .i64 0) rfl
      have o4 := cell_blk ho 4 (.int .i64 0) rfl
      have o5 := cell_blk ho 5 (.slice none 0 0) rfl
      have f0 := frozen_blk ho 0
      have f1 := frozen_blk ho 1
      have f2 := frozen_blk ho 2
      have f3 := frozen_blk ho 3
      have f4 := frozen_blk ho 4
      have f5 := frozen_blk ho 5
      have H52 : Hid (∀ W : World, W.heap = wr.heap → Calls Try.prog 81 #[.pointer (some ⟨w.heap.size + 1, 0, none⟩)] W fun e w' => e = .returned (.bool (doneS (recsS k c).2)) ∧ W = w') := fun W h => done_any (HD.out.rd.kept (by rw [h]))
      have hne : ¬ (w.heap.size = p0 + 1) := by omega
      have hne2 : ¬ (p0 + 1 = w.heap.size) := by omega
      have hrows := HD.out.row
      obtain ⟨ra, rl, rc, hrv⟩ : ∃ ra rl rc, rv = .slice ra rl rc := by
        rcases hrows.2 with ⟨e, _⟩ | ⟨g, cap, cur, e, _⟩
        · exact ⟨_, _, _, e⟩
        · exact ⟨_, _, _, e⟩
      subst hrv
      clear hb ho hrows
      go_wp2
      go_region_held3 (fun w' => w'.cell? ⟨p0 + 1, 0, none⟩ = some (.int .i64 n0) ∧ w'.cell? ⟨p0 + 1, 1, none⟩ = some (.int .i64 n1) ∧ w'.cell? ⟨p0 + 1, 2, none⟩ = some (.int .i64 n2) ∧ w'.cell? ⟨p0 + 1, 3, none⟩ = some (.int .i64 n3) ∧ w'.cell? ⟨p0 + 1, 4, none⟩ = some (.int .i64 n4) ∧ w'.cell? ⟨p0 + 1, 5, none⟩ = some (.slice ra rl rc)) (go_keep)
        (first
        | (go_at_call 81; refine (H52.out wr.drew rfl).mono ?_; rintro e w4 ⟨rfl, rfl⟩)
        | fail)
      go_wp2
      have hlen := recsS_length k c
      refine bodyPost_ret (v := .tuple #[.agg #[.int .i64 n0, .int .i64 n1, .int .i64 n2, .int .i64 n3, .int .i64 n4, .slice ra rl rc], .bool (doneS (recsS k c).2)]) (by simp [results, Try.results72, go_sem, o0, o1, o2, o3, o4, o5]) rfl ⟨.slice ra rl rc, by rw [HB.out], ?_, fun q hq => by have := (World.ownsRow.lt HD.out.row q hq).1; omega, ?_⟩
      · rw [HB.out]
        refine recs_of_row (B := p0 + 1 + 1) ?_ (fun r hr => rec_ok (recsS_ok k c r hr))
        simp only
        rw [hlen]
        refine ownsRow_kept HD.out.row (fun q hq => ?_)
        have hq2 := World.ownsRow.lt HD.out.row q hq
        have hqn : q ≠ w.heap.size := by omega
        exact six_keep wr w.heap.size q _ _ _ _ _ _ hqn
      · exact ((((((HD.out.below.setCell (Nat.le_refl _) _).setCell (Nat.le_refl _) _).setCell (Nat.le_refl _) _).setCell (Nat.le_refl _) _).setCell (Nat.le_refl _) _).setCell (Nat.le_refl _) _).drew
end Go.Proofs.Ytlgaianlkbaedaa

