/- WireBack: the walk. -/
import Derived.Test.YtcmmfmibgnebpaaMread
import Derived.Test.YtcmmfmibgnebpaaAlike
import Derived.Test.YtcmmfmibgnebpaaSame
namespace Go.Proofs.Ytcmmfmibgnebpaa
open Go.RowKit Go.Maps
set_option linter.unusedSimpArgs false
set_option linter.unusedVariables false
set_option maxRecDepth 100000

theorem metS_more (m : Met) (x : UInt8) (more : List UInt8) (h : I64 m.kind ∧ I64 m.a ∧ I64 m.b ∧ I64 m.c ∧ I64 m.d) (hl : ∀ n ∈ m.list, I64 n) (hn : m.name.length ≤ 32) (ht : m.text.length ≤ 1000) (hm : m.list.length ≤ 64) : (metS (metaL m ++ x :: more)).2 = false := by
  have e : metaL m ++ x :: more = intL m.kind ++ (intL m.a ++ (intL m.b ++ (intL m.c ++ (intL m.d ++ (textL m.name ++ (textL m.text ++ (intL m.list.length ++ (intsL m.list ++ x :: more)))))))) := by simp [metaL, intsL]
  unfold metS
  rw [e]
  simp only [numS_intL _ _ h.1, numS_intL _ _ h.2.1, numS_intL _ _ h.2.2.1, numS_intL _ _ h.2.2.2.1, numS_intL _ _ h.2.2.2.2, textS_textL 32 m.name _ (by omega) (by omega), textS_textL 1000 m.text _ (by omega) (by omega),
    countS_intL 64 _ _ (show I64 (m.list.length : Int) from ⟨by omega, by omega⟩) (by omega) (by omega), Int.toNat_natCast, numsS_intsL m.list (x :: more) hl]
  rfl

/-- A byte more, and it is no record. -/
theorem readMetaL_more (m : Met) (hi : m.ints) (h : metB m = 0) : ∃ E : Int, E ≠ 0 ∧ readMetaL ((metaW m).1 ++ [120]) = (zeroMet, E) := by
  obtain ⟨h1, h2, h3, h4⟩ := metB_ok h
  have e1 : (metaW m).1 = fourL (crcL (metaL m)) ++ metaL m := by unfold metaW; rw [if_pos h]
  have f2 : (fourL (crcL (metaL m)) ++ metaL m ++ [120]).drop 4 = metaL m ++ [120] := rfl
  rw [e1]
  unfold readMetaL
  rw [f2]
  by_cases c1 : (fourL (crcL (metaL m)) ++ metaL m ++ [120]).length < 4
  · exact ⟨5, by decide, by rw [if_pos c1]⟩
  by_cases c2 : 2048 < (fourL (crcL (metaL m)) ++ metaL m ++ [120]).length
  · exact ⟨2, by decide, by rw [if_neg c1, if_pos c2]⟩
  by_cases c3 : fourN (fourL (crcL (metaL m)) ++ metaL m ++ [120]) ≠ crcL (metaL m ++ [120])
  · exact ⟨6, by decide, by rw [if_neg c1, if_neg c2, if_pos c3]⟩
  · exact ⟨4, by decide, by rw [if_neg c1, if_neg c2, if_neg c3, if_pos (metS_more m 120 [] ⟨hi.h0, hi.h1, hi.h2, hi.h3, hi.h4⟩ hi.h5 h1 h2 h3)]⟩
theorem metaW_len (m : Met) : (metaW m).1.length ≤ 2048 := by
  unfold metaW
  by_cases h : metB m = 0
  · have := (metB_ok h).2.2.2
    rw [if_pos h]
    simp [fourL]
    omega
  · rw [if_neg h]; simp
theorem batchL_le (b : Bat) : (batchL b).1.length ≤ 4096 := by
  unfold batchL
  by_cases h : rightL b = 0
  · have := (right_facts h).2.2
    rw [if_pos h]
    simp [fourL]
    omega
  · rw [if_neg h]; simp

/-- Two boxes beside each other. -/
structure Two (w W : World) (O1 O2 : Obj) : Prop where
  below : Below w.heap.size w W
  b1 : W.heap[w.heap.size]? = some O1
  b2 : W.heap[w.heap.size + 1]? = some O2
theorem Two.lt {w W : World} {O1 O2 : Obj} (h : Two w W O1 O2) : w.heap.size + 1 < W.heap.size := by
  rcases Nat.lt_or_ge (w.heap.size + 1) W.heap.size with h1 | h1
  · exact h1
  · have := h.b2; rw [Array.getElem?_eq_none h1] at this; cases this
theorem Two.next {w W W' : World} {O1 O2 : Obj} (h : Two w W O1 O2) (hb : Below W.heap.size W W') : Two w W' O1 O2 :=
  have hl := h.lt
  ⟨h.below.trans (hb.mono (by omega)), (hb.block _ (by omega)).trans h.b1, (hb.block _ hl).trans h.b2⟩
theorem Two.laid (w : World) (O1 O2 : Obj) : Two w ((w.alloc O1).alloc O2) O1 O2 := by
  refine ⟨((Below.refl _ _).alloc (Nat.le_refl _) _).alloc (by simp) _, ?_, ?_⟩
  · exact (Below.heap_alloc _ _ _ (by simp)).trans (heap_alloc_new w O1)
  · have e : (w.alloc O1).heap.size = w.heap.size + 1 := by simp
    rw [← e]
    exact heap_alloc_new _ O2
theorem Two.cells6 {w W : World} {O2 : Obj} {a0 a1 a2 a3 a4 a5 : Value} {T : TypeId} (h : Two w W (.cells #[a0, a1, a2, a3, a4, a5] T) O2) : W.cell? ⟨w.heap.size, 0, none⟩ = some a0 ∧ W.cell? ⟨w.heap.size, 1, none⟩ = some a1 ∧ W.cell? ⟨w.heap.size, 2, none⟩ = some a2 ∧ W.cell? ⟨w.heap.size, 3, none⟩ = some a3 ∧ W.cell? ⟨w.heap.size, 4, none⟩ = some a4 ∧ W.cell? ⟨w.heap.size, 5, none⟩ = some a5 :=
  ⟨cell_blk h.b1 0 a0 rfl, cell_blk h.b1 1 a1 rfl, cell_blk h.b1 2 a2 rfl, cell_blk h.b1 3 a3 rfl, cell_blk h.b1 4 a4 rfl, cell_blk h.b1 5 a5 rfl⟩
theorem Two.cells8 {w W : World} {O1 : Obj} {a0 a1 a2 a3 a4 a5 a6 a7 : Value} {T : TypeId} (h : Two w W O1 (.cells #[a0, a1, a2, a3, a4, a5, a6, a7] T)) : W.cell? ⟨w.heap.size + 1, 0, none⟩ = some a0 ∧ W.cell? ⟨w.heap.size + 1, 1, none⟩ = some a1 ∧ W.cell? ⟨w.heap.size + 1, 2, none⟩ = some a2 ∧ W.cell? ⟨w.heap.size + 1, 3, none⟩ = some a3 ∧ W.cell? ⟨w.heap.size + 1, 4, none⟩ = some a4 ∧ W.cell? ⟨w.heap.size + 1, 5, none⟩ = some a5 ∧ W.cell? ⟨w.heap.size + 1, 6, none⟩ = some a6 ∧ W.cell? ⟨w.heap.size + 1, 7, none⟩ = some a7 :=
  ⟨cell_blk h.b2 0 a0 rfl, cell_blk h.b2 1 a1 rfl, cell_blk h.b2 2 a2 rfl, cell_blk h.b2 3 a3 rfl, cell_blk h.b2 4 a4 rfl, cell_blk h.b2 5 a5 rfl, cell_blk h.b2 6 a6 rfl, cell_blk h.b2 7 a7 rfl⟩

theorem sfit2 (l m : List UInt8) (h : l.length + m.length ≤ 9223372036854775807) : ∃ S : ByteArray, S = strOf (l ++ m) ∧ (¬ 9223372036854775807 < (strOf l).size + (strOf m).size) ∧ strOf l ++ strOf m = S := by
  refine ⟨_, rfl, ?_, strOf_append l m⟩
  rw [strOf_size, strOf_size]; omega

set_option maxHeartbeats 6400000 in
theorem back_walk (n o : Int) (b : Bat) (a : Option Addr) (cap : Nat) (m : Met) (am : Option Addr) (cm : Nat) (more : ByteArray) (w : World) (hn : I64 n) (ho : I64 o) (hi : b.ints) (hr : Recs w (.slice a b.recs.length cap) b.recs) (mi : m.ints) (ha : IntsAt w am w.heap.size m.list) (hmore : more.size ≤ 140737488355328) :
    Calls Try.prog 8 #[.int .i64 n, .int .i64 o, .agg #[.int .i64 b.base, .int .i64 b.epoch, .int .i64 b.pid, .int .i64 b.pidEpoch, .int .i64 b.seq, .slice a b.recs.length cap], .agg #[.int .i64 m.kind, .int .i64 m.a, .int .i64 m.b, .int .i64 m.c, .int .i64 m.d, .string (strOf m.name), .string (strOf m.text), .slice am m.list.length cm], .string more] w fun e w' => e = .returned (.bool true) ∧ Below w.heap.size w w' := by
  obtain ⟨ml, rfl⟩ : ∃ ml, more = strOf ml := ⟨more.data.toList, (strOf_eq more).symm⟩
  rw [strOf_size] at hmore
  have HS := hid (fun W => shown_any W)
  have zn := (intL_length n).2
  have zs := batchL_le b
  have zt := metaW_len m
  have hlist := mi.h8
  obtain ⟨S1, v1, u1, p1⟩ := sfit2 (intL n) ml (by omega)
  obtain ⟨S2, v2, u2, p2⟩ := sfit2 (batchL b).1 ml (by omega)
  obtain ⟨S3, v3, u3, p3⟩ := sfit2 (metaW m).1 [120] (by simp; omega)
  have p3' : strOf (metaW m).1 ++ (⟨#[120]⟩ : ByteArray) = S3 := p3
  have u3' : ¬ 9223372036854775807 < (strOf (metaW m).1).size + 1 := by rw [strOf_size]; omega
  have H12 := hid (fun W => int_any n W hn)
  have H12o := hid (fun W => int_any o W ho)
  have H10 : Hid (∀ W : World, Calls Try.prog 10 #[.string S1] W fun e w' => e = .returned (.tuple #[.int .i64 n, .int .i64 ((intL n).length : Nat), .int .i64 0]) ∧ W = w') := fun W => by
    have := readInt_any S1 W (by rw [v1, strOf_size, List.length_append]; unfold maxLen; omega)
    rw [v1, strOf_data, readL_intL n ml hn.1 hn.2] at this
    rw [v1]
    exact this
  have hcmp : ((strOf (intL n)).toList == (strOf (intL o)).toList) = (n == o) := by
    rw [ByteArray.toList_eq, ByteArray.toList_eq, strOf_data, strOf_data]
    by_cases h : n = o
    · subst h; simp
    · rw [beq_eq_false_iff_ne.2 h, beq_eq_false_iff_ne.2 (fun e => h (intL_inj hn.1 hn.2 ho.1 ho.2 e))]
  have HB : Hid ((batchL b).2 = rightL b) := by
    show _ = _
    unfold batchL
    split
    · rename_i h; exact h.symm
    · rfl
  have H16 : Hid (∀ W : World, Below w.heap.size w W → Calls Try.prog 16 #[.agg #[.int .i64 b.base, .int .i64 b.epoch, .int .i64 b.pid, .int .i64 b.pidEpoch, .int .i64 b.seq, .slice a b.recs.length cap]] W fun e w' => e = .returned (.tuple #[.string (strOf (batchL b).1), .int .i64 (rightL b)]) ∧ Below W.heap.size W w') := fun W h => by
    have := batch_any b a cap (hr.under h) hi
    rw [HB.out] at this
    exact this
  have H18 : Hid (∀ W : World, Below w.heap.size w W → Calls Try.prog 18 #[.agg #[.int .i64 b.base, .int .i64 b.epoch, .int .i64 b.pid, .int .i64 b.pidEpoch, .int .i64 b.seq, .slice a b.recs.length cap]] W fun e w' => e = .returned (.int .i64 (rightL b)) ∧ Below W.heap.size W w') := fun W h => right_any b a cap (hr.under h) hi
  have H21 : Hid (rightL b = 0 → ∀ W : World, Calls Try.prog 21 #[.string S2] W fun e w' => ∃ ra rc, e = .returned (.tuple #[.agg #[.int .i64 b.base, .int .i64 b.epoch, .int .i64 b.pid, .int .i64 b.pidEpoch, .int .i64 b.seq, .slice ra b.recs.length rc], .int .i64 ((batchL b).1.length : Nat), .int .i64 0]) ∧ Recs w' (.slice ra b.recs.length rc) b.recs ∧ Below W.heap.size W w') := fun hR W => by
    have := readBatch_any (w := W) ((batchL b).1 ++ ml) (by rw [List.length_append]; unfold maxLen; omega)
    rw [readBatchL_batchL b ml hi.h0 hR, ← v2] at this
    refine this.mono ?_
    rintro e w' ⟨rv, rfl, hrec, hb⟩
    obtain ⟨ra, rc, e, _⟩ := hrec.shape
    subst e
    exact ⟨ra, rc, rfl, hrec, hb⟩
  have H23 : Hid (∀ (W : World) (ra : Option Addr) (rc : Nat) (O : Obj), Below w.heap.size w W → Recs W (.slice ra b.recs.length rc) b.recs → Calls Try.prog 23 #[.agg #[.int .i64 b.base, .int .i64 b.epoch, .int .i64 b.pid, .int .i64 b.pidEpoch, .int .i64 b.seq, .slice ra b.recs.length rc], .agg #[.int .i64 b.base, .int .i64 b.epoch, .int .i64 b.pid, .int .i64 b.pidEpoch, .int .i64 b.seq, .slice a b.recs.length cap]] (W.alloc O) fun e w' => e = .returned (.bool true) ∧ Below (W.alloc O).heap.size (W.alloc O) w') := fun W ra rc O h hr2 =>
    have hA := (Below.refl W.heap.size W).alloc (Nat.le_refl _) O
    same_eq b ra a rc cap (hr2.under hA) ((hr.under h).under hA)
  have hm2 : Hid (metB m ≠ 0 → (metaW m).1 = []) := fun h => by unfold metaW; rw [if_neg h]
  have hm3 : Hid ((metaW m).2 = metB m) := by
    show _ = _
    unfold metaW
    split
    · rename_i h; exact h.symm
    · rfl
  have H27 : Hid (∀ W : World, Below w.heap.size w W → Calls Try.prog 27 #[.agg #[.int .i64 m.kind, .int .i64 m.a, .int .i64 m.b, .int .i64 m.c, .int .i64 m.d, .string (strOf m.name), .string (strOf m.text), .slice am m.list.length cm]] W fun e w' => e = .returned (.tuple #[.string (strOf (metaW m).1), .int .i64 (metB m)]) ∧ Below W.heap.size W w') := fun W h => by
    have := meta_any m am cm ((ha.under h).more h.size) mi
    rw [hm3.out] at this
    exact this
  have H24 : Hid (metB m = 0 → ∀ W : World, Calls Try.prog 24 #[.string (strOf (metaW m).1)] W fun e w' => ∃ ra rc, e = .returned (.tuple #[.agg #[.int .i64 m.kind, .int .i64 m.a, .int .i64 m.b, .int .i64 m.c, .int .i64 m.d, .string (strOf m.name), .string (strOf m.text), .slice ra m.list.length rc], .int .i64 0]) ∧ IntsAt w' ra w'.heap.size m.list ∧ Below W.heap.size W w') := fun hM W => by
    have := readMeta_any (w := W) (metaW m).1 (by unfold maxLen; omega)
    rw [readMetaL_metaW m ⟨mi.h0, mi.h1, mi.h2, mi.h3, mi.h4⟩ mi.h5 hM] at this
    refine this.mono ?_
    rintro e w' ⟨rv, rfl, hrec, hb⟩
    obtain ⟨ra, rc, e, hx⟩ := hrec.shape
    subst e
    exact ⟨ra, rc, rfl, hx, hb⟩
  have H24x : Hid (metB m = 0 → ∀ W : World, Calls Try.prog 24 #[.string S3] W fun e w' => ∃ (E : Int) (ra : Option Addr) (rc : Nat), e = .returned (.tuple #[.agg #[.int .i64 0, .int .i64 0, .int .i64 0, .int .i64 0, .int .i64 0, .string ⟨#[]⟩, .string ⟨#[]⟩, .slice ra 0 rc], .int .i64 E]) ∧ E ≠ 0 ∧ Below W.heap.size W w') := fun hM W => by
    obtain ⟨E, hE, hq⟩ := readMetaL_more m mi hM
    have := readMeta_any (w := W) ((metaW m).1 ++ [120]) (by rw [List.length_append]; unfold maxLen; simp; omega)
    rw [hq, ← v3] at this
    refine this.mono ?_
    rintro e w' ⟨rv, rfl, hrec, hb⟩
    obtain ⟨ra, rc, e, hx⟩ := hrec.shape
    subst e
    exact ⟨E, ra, rc, rfl, hE, hb⟩
  have H26 : Hid (∀ (W : World) (ra : Option Addr) (rc : Nat) (O : Obj), Below w.heap.size w W → IntsAt W ra W.heap.size m.list → Calls Try.prog 26 #[.agg #[.int .i64 m.kind, .int .i64 m.a, .int .i64 m.b, .int .i64 m.c, .int .i64 m.d, .string (strOf m.name), .string (strOf m.text), .slice ra m.list.length rc], .agg #[.int .i64 m.kind, .int .i64 m.a, .int .i64 m.b, .int .i64 m.c, .int .i64 m.d, .string (strOf m.name), .string (strOf m.text), .slice am m.list.length cm]] (W.alloc O) fun e w' => e = .returned (.bool true) ∧ Below (W.alloc O).heap.size (W.alloc O) w') := fun W ra rc O h hr2 =>
    have hA := (Below.refl W.heap.size W).alloc (Nat.le_refl _) O
    alike_eq m ra am rc cm hlist ((hr2.under hA).more hA.size) ((((ha.under h).more h.size).under hA).more hA.size)
  clear hr hi ha mi hn ho v1 v2 v3 p3 u3 HB hm3 hlist
  have HT0 : Hid (metB m ≠ 0 → strOf (metaW m).1 = ⟨#[]⟩) := fun h => by rw [hm2.out h]; rfl
  have k1 := strOf_size (intL n)
  have k2 := strOf_size (batchL b).1
  have k3 := strOf_size (metaW m).1
  have l2 : ¬ (4096 : Int) < ((batchL b).1.length : Nat) := by omega
  have l3 : (((metaW m).1.length : Nat) : Int) ≤ 2048 := by omega
  clear hm2
  generalize strOf (intL n) = I0 at *
  generalize strOf (intL o) = I1 at *
  generalize strOf (batchL b).1 = SB at *
  generalize strOf (metaW m).1 = SM at *
  generalize strOf ml = MORE at *
  generalize strOf m.name = NM at *
  generalize strOf m.text = TX at *
  generalize (intL n).length = L0 at *
  generalize (batchL b).1.length = L1 at *
  generalize (metaW m).1.length = L2 at *
  have X0 := hid (Two.laid w (.cells #[.int .i64 b.base, .int .i64 b.epoch, .int .i64 b.pid, .int .i64 b.pidEpoch, .int .i64 b.seq, .slice a b.recs.length cap] 32) (.cells #[.int .i64 m.kind, .int .i64 m.a, .int .i64 m.b, .int .i64 m.c, .int .i64 m.d, .string NM, .string TX, .slice am m.list.length cm] 43))
  go_enter Try.func8, Try.ntmps8
  go_wp2_with fail
  refine (HS.out _).mono ?_
  rintro e w1 ⟨rfl, hb1⟩
  have X1 := hid (X0.out.next hb1)
  clear hb1 X0
  go_wp2_with fail
  refine (H12.out _).mono ?_
  rintro e w2 ⟨rfl, hb2⟩
  have X2 := hid (X1.out.next hb2)
  clear hb2 X1
  go_wp2_with fail
  refine (H10.out _).mono ?_
  rintro e w3 ⟨rfl, rfl⟩
  go_wp2_with fail
  refine (H12.out _).mono ?_
  rintro e w3 ⟨rfl, hb3⟩
  have X3 := hid (X2.out.next hb3)
  clear hb3 X2
  go_wp2_with fail
  refine (H12.out _).mono ?_
  rintro e w4 ⟨rfl, hb4⟩
  have X4 := hid (X3.out.next hb4)
  clear hb4 X3
  go_wp2_with fail
  refine (H12o.out _).mono ?_
  rintro e w5 ⟨rfl, hb5⟩
  have X5 := hid (X4.out.next hb5)
  clear hb5 X4
  obtain ⟨c0, c1, c2, c3, c4, c5⟩ := X5.out.cells6
  go_wp2_with fail
  refine (H16.out _ X5.out.below).mono ?_
  rintro e w6 ⟨rfl, hb6⟩
  have X6 := hid (X5.out.next hb6)
  clear hb6 X5 c0 c1 c2 c3 c4 c5 H10 H12 H12o hcmp
  by_cases hR : rightL b = 0
  · have R21 := hid (H21.out hR)
    have HR := hid hR
    rw [HR.out]
    clear hR H21
    go_wp2_with fail
    refine (R21.out _).mono ?_
    rintro e w7 ⟨ra, rc, rfl, hrec, hb7⟩
    have X7 := hid (X6.out.next hb7)
    have HREC := hid hrec
    clear hb7 hrec X6
    obtain ⟨c0, c1, c2, c3, c4, c5⟩ := X7.out.cells6
    have hw7 := X7.out.lt
    have hv7 : w.heap.size < w7.heap.size := by omega
    go_wp2_with fail
    refine (H23.out _ ra rc _ X7.out.below HREC.out).mono ?_
    rintro e w8 ⟨rfl, hb8⟩
    have X8 := hid ((X7.out.next ((Below.refl _ _).alloc (Nat.le_refl _) _)).next hb8)
    clear hb8 HREC X7 c0 c1 c2 c3 c4 c5 hw7 hv7
    obtain ⟨c0, c1, c2, c3, c4, c5⟩ := X8.out.cells6
    go_wp2_with fail
    refine (H18.out _ X8.out.below).mono ?_
    rintro e w9 ⟨rfl, hb9⟩
    rw [HR.out]
    have X9 := hid (X8.out.next hb9)
    clear hb9 X8 c0 c1 c2 c3 c4 c5
    by_cases hM : metB m = 0
    · have HM := hid hM
      have R24 := hid (H24.out hM)
      have R24x := hid (H24x.out hM)
      have ht0 : (metB m != 0) = false := by simp [hM]
      obtain ⟨c0, c1, c2, c3, c4, c5⟩ := X9.out.cells6
      obtain ⟨d0, d1, d2, d3, d4, d5, d6, d7⟩ := X9.out.cells8
      have hw9 := X9.out.lt
      clear hM
      go_wp2_with fail
      refine (H27.out _ X9.out.below).mono ?_
      rintro e w10 ⟨rfl, hb10⟩
      rw [HM.out]
      have X10 := hid (X9.out.next hb10)
      clear hb10
      go_wp2_with fail
      refine (R24.out _).mono ?_
      rintro e w11 ⟨ra, rc, rfl, hia, hb11⟩
      have X11 := hid (X10.out.next hb11)
      have HIA := hid hia
      clear hb11 hia c0 c1 c2 c3 c4 c5 d0 d1 d2 d3 d4 d5 d6 d7
      obtain ⟨d0, d1, d2, d3, d4, d5, d6, d7⟩ := X11.out.cells8
      have hw11 := X11.out.lt
      have hv11 : w.heap.size < w11.heap.size := by omega
      go_wp2_with fail
      refine (H26.out _ ra rc _ X11.out.below HIA.out).mono ?_
      rintro e w12 ⟨rfl, hb12⟩
      have X12 := hid ((X11.out.next ((Below.refl _ _).alloc (Nat.le_refl _) _)).next hb12)
      clear hb12 d0 d1 d2 d3 d4 d5 d6 d7
      go_wp2_with fail
      refine (R24x.out _).mono ?_
      rintro e w13 ⟨E, rb, rd, rfl, hE, hb13⟩
      have X13 := hid (X12.out.next hb13)
      have hE' : (E != 0) = true := by simp [hE]
      clear hb13 hE
      go_wp2
      go_ret
      exact ⟨rfl, (X13.out.next ((Below.refl _ _).alloc (Nat.le_refl _) _)).below⟩
    · have ht0 : (metB m != 0) = true := by simp [hM]
      have HT := hid (HT0.out hM)
      obtain ⟨c0, c1, c2, c3, c4, c5⟩ := X9.out.cells6
      obtain ⟨d0, d1, d2, d3, d4, d5, d6, d7⟩ := X9.out.cells8
      have hw9 := X9.out.lt
      clear hM
      go_wp2_with fail
      refine (H27.out _ X9.out.below).mono ?_
      rintro e w10 ⟨rfl, hb10⟩
      rw [HT.out]
      have X10 := hid (X9.out.next hb10)
      clear hb10
      go_wp2
      go_ret
      exact ⟨rfl, X10.out.below⟩
  · have hR1 : (rightL b == 0) = false := by simp [hR]
    clear hR H21
    obtain ⟨c0, c1, c2, c3, c4, c5⟩ := X6.out.cells6
    go_wp2_with fail
    refine (H18.out _ X6.out.below).mono ?_
    rintro e w9 ⟨rfl, hb9⟩
    have X9 := hid (X6.out.next hb9)
    clear hb9 X6 c0 c1 c2 c3 c4 c5
    by_cases hM : metB m = 0
    · have HM := hid hM
      have R24 := hid (H24.out hM)
      have R24x := hid (H24x.out hM)
      have ht0 : (metB m != 0) = false := by simp [hM]
      obtain ⟨c0, c1, c2, c3, c4, c5⟩ := X9.out.cells6
      obtain ⟨d0, d1, d2, d3, d4, d5, d6, d7⟩ := X9.out.cells8
      have hw9 := X9.out.lt
      clear hM
      go_wp2_with fail
      refine (H27.out _ X9.out.below).mono ?_
      rintro e w10 ⟨rfl, hb10⟩
      rw [HM.out]
      have X10 := hid (X9.out.next hb10)
      clear hb10
      go_wp2_with fail
      refine (R24.out _).mono ?_
      rintro e w11 ⟨ra, rc, rfl, hia, hb11⟩
      have X11 := hid (X10.out.next hb11)
      have HIA := hid hia
      clear hb11 hia c0 c1 c2 c3 c4 c5 d0 d1 d2 d3 d4 d5 d6 d7
      obtain ⟨d0, d1, d2, d3, d4, d5, d6, d7⟩ := X11.out.cells8
      have hw11 := X11.out.lt
      have hv11 : w.heap.size < w11.heap.size := by omega
      go_wp2_with fail
      refine (H26.out _ ra rc _ X11.out.below HIA.out).mono ?_
      rintro e w12 ⟨rfl, hb12⟩
      have X12 := hid ((X11.out.next ((Below.refl _ _).alloc (Nat.le_refl _) _)).next hb12)
      clear hb12 d0 d1 d2 d3 d4 d5 d6 d7
      go_wp2_with fail
      refine (R24x.out _).mono ?_
      rintro e w13 ⟨E, rb, rd, rfl, hE, hb13⟩
      have X13 := hid (X12.out.next hb13)
      have hE' : (E != 0) = true := by simp [hE]
      clear hb13 hE
      go_wp2
      go_ret
      exact ⟨rfl, (X13.out.next ((Below.refl _ _).alloc (Nat.le_refl _) _)).below⟩
    · have ht0 : (metB m != 0) = true := by simp [hM]
      have HT := hid (HT0.out hM)
      obtain ⟨c0, c1, c2, c3, c4, c5⟩ := X9.out.cells6
      obtain ⟨d0, d1, d2, d3, d4, d5, d6, d7⟩ := X9.out.cells8
      have hw9 := X9.out.lt
      clear hM
      go_wp2_with fail
      refine (H27.out _ X9.out.below).mono ?_
      rintro e w10 ⟨rfl, hb10⟩
      rw [HT.out]
      have X10 := hid (X9.out.next hb10)
      clear hb10
      go_wp2
      go_ret
      exact ⟨rfl, X10.out.below⟩
end Go.Proofs.Ytcmmfmibgnebpaa
