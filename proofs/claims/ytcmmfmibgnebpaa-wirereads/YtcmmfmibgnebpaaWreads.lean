/- WireReads: the walk. -/
import Derived.Test.YtcmmfmibgnebpaaRfbatch
import Derived.Test.YtcmmfmibgnebpaaRfmeta
import Derived.Test.YtcmmfmibgnebpaaWback
import Derived.Test.YtcmmfmibgnebpaaRefbody
namespace Go.Proofs.Ytcmmfmibgnebpaa
open Go.RowKit Go.Maps
set_option linter.unusedSimpArgs false
set_option linter.unusedVariables false
set_option maxRecDepth 100000

theorem readMetaL_list (l : List UInt8) : (readMetaL l).1.list.length ≤ maxLen := by
  have h64 : (metS (l.drop 4)).1.list.length ≤ maxLen := by
    rw [(metS_rest (l.drop 4)).2.2.1, numsS_length]
    have := countS_range 64 (textS 1000 (textS 32 (numsS 5 ⟨l.drop 4, false⟩).2).2).2 (by omega)
    unfold maxLen
    omega
  unfold readMetaL
  split
  · simp [zeroMet]
  · split
    · simp [zeroMet]
    · split
      · simp [zeroMet]
      · split
        · simp [zeroMet]
        · exact h64

/-- A box in block q, beyond what was there. -/
structure Kept (w : World) (q : Nat) (O : Obj) (W : World) : Prop where
  below : Below w.heap.size w W
  box : W.heap[q]? = some O
theorem Kept.lt {w : World} {q : Nat} {O : Obj} {W : World} (h : Kept w q O W) : q < W.heap.size := by
  rcases Nat.lt_or_ge q W.heap.size with h1 | h1
  · exact h1
  · have := h.box; rw [Array.getElem?_eq_none h1] at this; cases this
theorem Kept.next {w : World} {q : Nat} {O : Obj} {W W' : World} (h : Kept w q O W) (hb : Below W.heap.size W W') : Kept w q O W' := ⟨h.below.trans (hb.mono h.below.size), (hb.block q h.lt).trans h.box⟩

set_option maxHeartbeats 3200000 in
theorem reads_walk (s : ByteArray) (w : World) (hs : s.size ≤ maxLen) : Calls Try.prog 6 #[.string s] w fun e w' => e = .returned (.bool true) ∧ Below w.heap.size w w' := by
  obtain ⟨l, rfl⟩ : ∃ l, s = strOf l := ⟨s.data.toList, (strOf_eq s).symm⟩
  rw [strOf_size] at hs
  have hsz := strOf_size l
  have HS := hid (shown_any w)
  by_cases hl : 10000 < l.length
  · have hl' : 10000 < (l.length : Int) := by omega
    go_enter Try.func6, Try.ntmps6
    go_wp2_with fail
    refine HS.out.mono ?_
    rintro e w1 ⟨rfl, hb1⟩
    go_wp2
    go_ret
    exact ⟨rfl, hb1⟩
  have hl' : ¬ 10000 < (l.length : Int) := by omega
  have hcr := crcL_lt l
  have H15 := hid (fun W => rcrc_any (strOf l) W (by rw [hsz]; exact hs))
  rw [strOf_data] at H15
  have H20a := hid (fun W => rfour_any l.length W (by omega))
  have H20b := hid (fun W => rfour_any (crcL l) W hcr)
  have e1 : (fourL l.length).length = 4 := rfl
  have e2 : (fourL (crcL l)).length = 4 := rfl
  obtain ⟨S1, v1, u1, p1⟩ := sfit (fourL l.length) (fourL (crcL l)) _ rfl (by omega)
  obtain ⟨S2, v2, u2, p2⟩ := sfit (fourL l.length ++ fourL (crcL l)) l _ v1 (by rw [List.length_append]; omega)
  obtain ⟨S3, v3, u3, p3⟩ := sfit (fourL (crcL l)) l _ rfl (by omega)
  obtain ⟨L, hL⟩ : ∃ L : Nat → List UInt8, L = fun k => if k = 0 then l else if k = 1 then fourL l.length ++ fourL (crcL l) ++ l else fourL (crcL l) ++ l := ⟨_, rfl⟩
  have HL : Hid (∀ k, k < 3 → (L k).length ≤ maxLen) := fun k hk => by
    rw [hL]
    unfold maxLen
    simp only
    split
    · omega
    · split
      · rw [List.length_append, List.length_append]; omega
      · rw [List.length_append]; omega
  have HBX : Hid (∀ k, k < 3 → (#[Value.string (strOf l), .string S2, .string S3] : Array Value)[k]? = some (.string (strOf (L k)))) := fun k hk => by
    rw [hL, v2, v3]
    match k, hk with
    | 0, _ => rfl
    | 1, _ => rfl
    | 2, _ => rfl
  clear hL v1 v2 v3 e1 e2
  generalize crcL l = C at *
  generalize strOf (fourL l.length) = F1 at *
  generalize strOf (fourL C) = F2 at *
  generalize strOf l = SL at *
  go_enter Try.func6, Try.ntmps6
  go_wp2_with fail
  refine HS.out.mono ?_
  rintro e w1 ⟨rfl, hb1⟩
  have B1 := hid hb1
  clear hb1 HS
  go_wp2_with fail
  refine (H20a.out _).mono ?_
  rintro e w2 ⟨rfl, hb⟩
  have B2 := hid (B1.out.trans (hb.mono B1.out.size))
  clear hb B1
  go_wp2_with fail
  refine (H15.out _).mono ?_
  rintro e w3 ⟨rfl, rfl⟩
  go_wp2_with fail
  refine (H20b.out _).mono ?_
  rintro e w3 ⟨rfl, hb⟩
  have B3 := hid (B2.out.trans (hb.mono B2.out.size))
  clear hb B2
  go_wp2_with fail
  refine (H15.out _).mono ?_
  rintro e w4 ⟨rfl, rfl⟩
  go_wp2_with fail
  refine (H20b.out _).mono ?_
  rintro e w4 ⟨rfl, hb⟩
  have B4 := hid (B3.out.trans (hb.mono B3.out.size))
  clear hb B3
  have D0 : Hid (Kept w w4.heap.size (.cells #[.string SL, .string S2, .string S3] 9) (w4.alloc (.cells #[.string SL, .string S2, .string S3] 9))) := ⟨B4.out.alloc B4.out.size _, heap_alloc_new _ _⟩
  go_wp2
  generalize w4.heap.size = q at *
  go_loopw [5] (fun i wr => ∃ k : Nat, k ≤ 3 ∧ i = .int .i64 k ∧ Hid (Kept w q (.cells #[.string SL, .string S2, .string S3] 9) wr)) (fun i _ => 3 - (intOf i).toNat)
  case atStart => exact ⟨0, by omega, rfl, D0⟩
  case round =>
    obtain ⟨k, hk, rfl, HD⟩ := hrel
    clear D0
    by_cases hlt : k < 3
    · have hlt' : (k : Int) < 3 := by omega
      have i0 : (0 : Int) ≤ (k : Int) := by omega
      have hl := HL.out k hlt
      have G21 := hid (fun W => readBatch_any (w := W) (L k) hl)
      have G22 := hid (fun W => rreadBatch_any (w := W) (L k) hl)
      have G24 := hid (fun W => readMeta_any (w := W) (L k) hl)
      have G25 := hid (fun W => rreadMeta_any (w := W) (L k) hl)
      have HC := hid (HBX.out k hlt)
      have HLM := hid (readMetaL_list (L k))
      generalize strOf (L k) = X at *
      generalize readBatchL (L k) = R at *
      obtain ⟨b, n, E⟩ := R
      generalize readMetaL (L k) = R at *
      obtain ⟨m, E2⟩ := R
      simp only at *
      have H21 : Hid (∀ W : World, Calls Try.prog 21 #[.string X] W fun e w' => ∃ ra rc, e = .returned (.tuple #[.agg #[.int .i64 b.base, .int .i64 b.epoch, .int .i64 b.pid, .int .i64 b.pidEpoch, .int .i64 b.seq, .slice ra b.recs.length rc], .int .i64 (n : Nat), .int .i64 E]) ∧ Recs w' (.slice ra b.recs.length rc) b.recs ∧ Below W.heap.size W w') := fun W => (G21.out W).mono (by
        rintro e w' ⟨rv, rfl, hrec, hb⟩
        obtain ⟨ra, rc, e, _⟩ := hrec.shape
        subst e
        exact ⟨ra, rc, rfl, hrec, hb⟩)
      have H22 : Hid (∀ W : World, Calls Try.prog 22 #[.string X] W fun e w' => ∃ ra rc, e = .returned (.tuple #[.agg #[.int .i64 b.base, .int .i64 b.epoch, .int .i64 b.pid, .int .i64 b.pidEpoch, .int .i64 b.seq, .slice ra b.recs.length rc], .int .i64 (n : Nat), .int .i64 E]) ∧ Recs w' (.slice ra b.recs.length rc) b.recs ∧ Below W.heap.size W w') := fun W => (G22.out W).mono (by
        rintro e w' ⟨rv, rfl, hrec, hb⟩
        obtain ⟨ra, rc, e, _⟩ := hrec.shape
        subst e
        exact ⟨ra, rc, rfl, hrec, hb⟩)
      have H24 : Hid (∀ W : World, Calls Try.prog 24 #[.string X] W fun e w' => ∃ ra rc, e = .returned (.tuple #[.agg #[.int .i64 m.kind, .int .i64 m.a, .int .i64 m.b, .int .i64 m.c, .int .i64 m.d, .string (strOf m.name), .string (strOf m.text), .slice ra m.list.length rc], .int .i64 E2]) ∧ IntsAt w' ra w'.heap.size m.list ∧ Below W.heap.size W w') := fun W => (G24.out W).mono (by
        rintro e w' ⟨rv, rfl, hrec, hb⟩
        obtain ⟨ra, rc, e, hx⟩ := hrec.shape
        subst e
        exact ⟨ra, rc, rfl, hx, hb⟩)
      have H25 : Hid (∀ W : World, Calls Try.prog 25 #[.string X] W fun e w' => ∃ ra rc, e = .returned (.tuple #[.agg #[.int .i64 m.kind, .int .i64 m.a, .int .i64 m.b, .int .i64 m.c, .int .i64 m.d, .string (strOf m.name), .string (strOf m.text), .slice ra m.list.length rc], .int .i64 E2]) ∧ IntsAt w' ra w'.heap.size m.list ∧ Below W.heap.size W w') := fun W => (G25.out W).mono (by
        rintro e w' ⟨rv, rfl, hrec, hb⟩
        obtain ⟨ra, rc, e, hx⟩ := hrec.shape
        subst e
        exact ⟨ra, rc, rfl, hx, hb⟩)
      have H26 : Hid (∀ (W : World) (ra rb : Option Addr) (rc rd : Nat), IntsAt W ra W.heap.size m.list → IntsAt W rb W.heap.size m.list → Calls Try.prog 26 #[.agg #[.int .i64 m.kind, .int .i64 m.a, .int .i64 m.b, .int .i64 m.c, .int .i64 m.d, .string (strOf m.name), .string (strOf m.text), .slice ra m.list.length rc], .agg #[.int .i64 m.kind, .int .i64 m.a, .int .i64 m.b, .int .i64 m.c, .int .i64 m.d, .string (strOf m.name), .string (strOf m.text), .slice rb m.list.length rd]] W fun e w' => e = .returned (.bool true) ∧ Below W.heap.size W w') := fun W ra rb rc rd h1 h2 => alike_eq m ra rb rc rd HLM.out h1 h2
      clear G21 G22 G24 G25 HLM
      generalize strOf m.name = NM at *
      generalize strOf m.text = TX at *
      have k0 := cell_blk HD.out.box k _ HC.out
      have q0 := HD.out.lt
      go_wp2_with fail
      refine (H21.out wr).mono ?_
      rintro e w1 ⟨ra, rc, rfl, hrec, hb⟩
      have D1 := hid (HD.out.next hb)
      have P1 := hid hrec
      have k1 := cell_blk D1.out.box k _ HC.out
      have q1 := D1.out.lt
      clear hrec hb k0 q0 H21
      go_wp2_with fail
      refine (H22.out (w1.alloc (.cells #[.int .i64 b.base, .int .i64 b.epoch, .int .i64 b.pid, .int .i64 b.pidEpoch, .int .i64 b.seq, .slice ra b.recs.length rc] 32))).mono ?_
      rintro e w2 ⟨rb, rd, rfl, hrec, hb⟩
      have D2 := hid ((D1.out.next ((Below.refl _ _).alloc (Nat.le_refl _) (.cells #[.int .i64 b.base, .int .i64 b.epoch, .int .i64 b.pid, .int .i64 b.pidEpoch, .int .i64 b.seq, .slice ra b.recs.length rc] 32))).next hb)
      have X2 := hid ((Boxed.laid w1 (.cells #[.int .i64 b.base, .int .i64 b.epoch, .int .i64 b.pid, .int .i64 b.pidEpoch, .int .i64 b.seq, .slice ra b.recs.length rc] 32)).next hb)
      have P2 := hid ((P1.out.under ((Below.refl _ _).alloc (Nat.le_refl _) (.cells #[.int .i64 b.base, .int .i64 b.epoch, .int .i64 b.pid, .int .i64 b.pidEpoch, .int .i64 b.seq, .slice ra b.recs.length rc] 32))).under hb)
      have Q2 := hid hrec
      obtain ⟨c0, c1, c2, c3, c4, c5⟩ := six X2.out
      have z2 := X2.out.lt
      clear hrec hb k1 q1 H22 P1 D1
      go_wp2_with fail
      refine (same_eq b ra rb rc rd (P2.out.under ((Below.refl _ _).alloc (Nat.le_refl _) (.cells #[.int .i64 b.base, .int .i64 b.epoch, .int .i64 b.pid, .int .i64 b.pidEpoch, .int .i64 b.seq, .slice rb b.recs.length rd] 32))) (Q2.out.under ((Below.refl _ _).alloc (Nat.le_refl _) (.cells #[.int .i64 b.base, .int .i64 b.epoch, .int .i64 b.pid, .int .i64 b.pidEpoch, .int .i64 b.seq, .slice rb b.recs.length rd] 32)))).mono ?_
      rintro e w3 ⟨rfl, hb⟩
      have D3 := hid ((D2.out.next ((Below.refl _ _).alloc (Nat.le_refl _) (.cells #[.int .i64 b.base, .int .i64 b.epoch, .int .i64 b.pid, .int .i64 b.pidEpoch, .int .i64 b.seq, .slice rb b.recs.length rd] 32))).next hb)
      have k3 := cell_blk D3.out.box k _ HC.out
      have q3 := D3.out.lt
      clear hb D2 P2 Q2 X2 c0 c1 c2 c3 c4 c5 z2
      go_wp2_with fail
      refine (H24.out w3).mono ?_
      rintro e w4 ⟨sa, sc, rfl, hrec, hb⟩
      have D4 := hid (D3.out.next hb)
      have P4 := hid hrec
      have k4 := cell_blk D4.out.box k _ HC.out
      have q4 := D4.out.lt
      clear hrec hb k3 q3 H24 D3
      go_wp2_with fail
      refine (H25.out (w4.alloc (.cells #[.int .i64 m.kind, .int .i64 m.a, .int .i64 m.b, .int .i64 m.c, .int .i64 m.d, .string NM, .string TX, .slice sa m.list.length sc] 43))).mono ?_
      rintro e w5 ⟨sb, sd, rfl, hrec, hb⟩
      have D5 := hid ((D4.out.next ((Below.refl _ _).alloc (Nat.le_refl _) (.cells #[.int .i64 m.kind, .int .i64 m.a, .int .i64 m.b, .int .i64 m.c, .int .i64 m.d, .string NM, .string TX, .slice sa m.list.length sc] 43))).next hb)
      have X5 := hid ((Boxed.laid w4 (.cells #[.int .i64 m.kind, .int .i64 m.a, .int .i64 m.b, .int .i64 m.c, .int .i64 m.d, .string NM, .string TX, .slice sa m.list.length sc] 43)).next hb)
      have P5 : Hid (IntsAt w5 sa w5.heap.size m.list) := by
        have hA := (Below.refl w4.heap.size w4).alloc (Nat.le_refl _) (.cells #[.int .i64 m.kind, .int .i64 m.a, .int .i64 m.b, .int .i64 m.c, .int .i64 m.d, .string NM, .string TX, .slice sa m.list.length sc] 43)
        exact ((((P4.out.under hA).more hA.size).under hb).more hb.size)
      have Q5 := hid hrec
      obtain ⟨c0, c1, c2, c3, c4, c5, c6, c7⟩ := eight X5.out
      have z5 := X5.out.lt
      clear hrec hb k4 q4 H25 P4 D4
      have T26 : Hid (Calls Try.prog 26 #[.agg #[.int .i64 m.kind, .int .i64 m.a, .int .i64 m.b, .int .i64 m.c, .int .i64 m.d, .string NM, .string TX, .slice sa m.list.length sc], .agg #[.int .i64 m.kind, .int .i64 m.a, .int .i64 m.b, .int .i64 m.c, .int .i64 m.d, .string NM, .string TX, .slice sb m.list.length sd]] (w5.alloc (.cells #[.int .i64 m.kind, .int .i64 m.a, .int .i64 m.b, .int .i64 m.c, .int .i64 m.d, .string NM, .string TX, .slice sb m.list.length sd] 43)) fun e w' => e = .returned (.bool true) ∧ Below (w5.alloc (.cells #[.int .i64 m.kind, .int .i64 m.a, .int .i64 m.b, .int .i64 m.c, .int .i64 m.d, .string NM, .string TX, .slice sb m.list.length sd] 43)).heap.size (w5.alloc (.cells #[.int .i64 m.kind, .int .i64 m.a, .int .i64 m.b, .int .i64 m.c, .int .i64 m.d, .string NM, .string TX, .slice sb m.list.length sd] 43)) w') := by
        have hA := (Below.refl w5.heap.size w5).alloc (Nat.le_refl _) (.cells #[.int .i64 m.kind, .int .i64 m.a, .int .i64 m.b, .int .i64 m.c, .int .i64 m.d, .string NM, .string TX, .slice sb m.list.length sd] 43)
        exact H26.out _ sa sb sc sd ((P5.out.under hA).more hA.size) ((Q5.out.under hA).more hA.size)
      go_wp2_with fail
      refine T26.out.mono ?_
      rintro e w6 ⟨rfl, hb⟩
      have D6 := hid ((D5.out.next ((Below.refl _ _).alloc (Nat.le_refl _) (.cells #[.int .i64 m.kind, .int .i64 m.a, .int .i64 m.b, .int .i64 m.c, .int .i64 m.d, .string NM, .string TX, .slice sb m.list.length sd] 43))).next hb)
      clear hb D5 P5 Q5 X5 c0 c1 c2 c3 c4 c5 c6 c7 z5 H26 T26
      go_wp2
      go_roundw
      case rel => exact ⟨k + 1, by omega, by go_num, D6⟩
      case measure => simp [intOf]; omega
    · have hlt' : ¬ (k : Int) < 3 := by omega
      go_wp2
      go_ret
      exact ⟨rfl, HD.out.below⟩
end Go.Proofs.Ytcmmfmibgnebpaa
