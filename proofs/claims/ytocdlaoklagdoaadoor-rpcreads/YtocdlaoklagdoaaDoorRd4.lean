/- The document's read, whole. -/
import Derived.Test.YtocdlaoklagdoaaDoorRu
namespace Go.Proofs.YtocdlaoklagdoaaDoor
open Go.RowKit Go.Maps
set_option linter.unusedSimpArgs false
set_option linter.unusedVariables false
set_option maxRecDepth 100000
set_option maxHeartbeats 6400000 in
theorem refRead : RefRead := by
  intro w q l hl hrf
  obtain ⟨K, sK, hK⟩ : ∃ K sK, numS ⟨l, false⟩ = (K, sK) := ⟨_, _, rfl⟩
  obtain ⟨P, sP, hP⟩ : ∃ P sP, numS sK = (P, sP) := ⟨_, _, rfl⟩
  obtain ⟨L, sL, hL⟩ : ∃ L sL, someS P 15 sP = (L, sL) := ⟨_, _, rfl⟩
  obtain ⟨N, sN, hN⟩ : ∃ N sN, optR (hasB P 15) sL = (N, sN) := ⟨_, _, rfl⟩
  obtain ⟨T, sT, hT⟩ : ∃ T sT, optR (hasB P 16) sN = (T, sT) := ⟨_, _, rfl⟩
  have HM : Hid (refR l = if P < 0 ∨ 1048576 ≤ P then none else endR P K L N T (optB (hasB P 17) sT)) := by
    show _ = _
    unfold refR
    simp only [hK, hP, hL, hN, hT]
    split
    · rfl
    · cases optB (hasB P 17) sT <;> rfl
  have hL15 : L.length = 15 := by have := someS_length P 15 sP; rw [hL] at this; exact this
  have hPi : I64 P := by have := numS_ok sK; rw [hP] at this; exact this
  have hlt := hrf.lt
  have G1 : Hid (∀ W, Rf W q ⟨l, false⟩ → Calls Tryd.prog 41 #[.pointer (some ⟨q, 0, none⟩)] W fun e w' => e = .returned (.int .i64 K) ∧ Rf w' q sK ∧ W.grownBy w' (some q)) := fun W h => by have := rnumber_any h; rw [hK] at this; exact this
  have G2 : Hid (∀ W, Rf W q sK → Calls Tryd.prog 41 #[.pointer (some ⟨q, 0, none⟩)] W fun e w' => e = .returned (.int .i64 P) ∧ Rf w' q sP ∧ W.grownBy w' (some q)) := fun W h => by have := rnumber_any h; rw [hP] at this; exact this
  have HLs := hid hL
  have HNs := hid hN
  have HTs := hid hT
  have HR : Hid (∀ O, Rf (w.alloc O) q ⟨l, false⟩) := fun O => hrf.kept (Below.heap_alloc w O q hlt)
  clear hK hP hL hN hT hrf
  have hw0 : w.heap.size < (w.alloc (.cells #[.int .i64 0, .int .i64 0, .int .i64 0, .int .i64 0, .int .i64 0, .int .i64 0, .int .i64 0, .int .i64 0, .int .i64 0, .int .i64 0, .int .i64 0, .int .i64 0, .int .i64 0, .int .i64 0, .int .i64 0, .int .i64 0, .string ⟨#[]⟩, .string ⟨#[]⟩, .slice none 0 0, .slice none 0 0, .slice none 0 0] 27)).heap.size := by simp
  go_enter Tryd.func30, Tryd.ntmps30
  go_wp2_with fail
  refine (G1.out _ (HR.out _)).mono ?_
  rintro e w1 ⟨rfl, hr1, hg1⟩
  have hs1 : w.heap.size < w1.heap.size := by have := hg1.size; omega
  have F2 : Hid (FAt w q w1.heap.size sK #[.int .i64 K, .int .i64 0, .int .i64 0, .int .i64 0, .int .i64 0, .int .i64 0, .int .i64 0, .int .i64 0, .int .i64 0, .int .i64 0, .int .i64 0, .int .i64 0, .int .i64 0, .int .i64 0, .int .i64 0, .int .i64 0, .string ⟨#[]⟩, .string ⟨#[]⟩, .slice none 0 0, .slice none 0 0, .slice none 0 0] (w1.alloc (.cells #[.int .i64 K, .int .i64 0, .int .i64 0, .int .i64 0, .int .i64 0, .int .i64 0, .int .i64 0, .int .i64 0, .int .i64 0, .int .i64 0, .int .i64 0, .int .i64 0, .int .i64 0, .int .i64 0, .int .i64 0, .int .i64 0, .string ⟨#[]⟩, .string ⟨#[]⟩, .slice none 0 0, .slice none 0 0, .slice none 0 0] 27))) := by
    refine ⟨hr1.kept (Below.heap_alloc _ _ _ (by omega)), ?_, heap_alloc_new _ _, ((World.grownBy_alloc w _ (some q)).trans hg1).trans (World.grownBy_alloc _ _ _), hlt, hs1⟩
    rw [Below.heap_alloc _ _ _ hs1, hg1.block _ hw0 (fun e => by cases e; omega)]
    exact heap_alloc_new w _
  have hst : Hid ((w1.alloc (.cells #[.int .i64 0, .int .i64 0, .int .i64 0, .int .i64 0, .int .i64 0, .int .i64 0, .int .i64 0, .int .i64 0, .int .i64 0, .int .i64 0, .int .i64 0, .int .i64 0, .int .i64 0, .int .i64 0, .int .i64 0, .int .i64 0, .string ⟨#[]⟩, .string ⟨#[]⟩, .slice none 0 0, .slice none 0 0, .slice none 0 0] 27)).setRow w1.heap.size #[.int .i64 K, .int .i64 0, .int .i64 0, .int .i64 0, .int .i64 0, .int .i64 0, .int .i64 0, .int .i64 0, .int .i64 0, .int .i64 0, .int .i64 0, .int .i64 0, .int .i64 0, .int .i64 0, .int .i64 0, .int .i64 0, .string ⟨#[]⟩, .string ⟨#[]⟩, .slice none 0 0, .slice none 0 0, .slice none 0 0] = w1.alloc (.cells #[.int .i64 K, .int .i64 0, .int .i64 0, .int .i64 0, .int .i64 0, .int .i64 0, .int .i64 0, .int .i64 0, .int .i64 0, .int .i64 0, .int .i64 0, .int .i64 0, .int .i64 0, .int .i64 0, .int .i64 0, .int .i64 0, .string ⟨#[]⟩, .string ⟨#[]⟩, .slice none 0 0, .slice none 0 0, .slice none 0 0] 27)) := World.setRow_alloc_new _ _ _ _
  have N1 := hid (heap_alloc_new w1 (.cells #[.int .i64 0, .int .i64 0, .int .i64 0, .int .i64 0, .int .i64 0, .int .i64 0, .int .i64 0, .int .i64 0, .int .i64 0, .int .i64 0, .int .i64 0, .int .i64 0, .int .i64 0, .int .i64 0, .int .i64 0, .int .i64 0, .string ⟨#[]⟩, .string ⟨#[]⟩, .slice none 0 0, .slice none 0 0, .slice none 0 0] 27))
  clear hr1 hg1 hw0 HR G1
  go_wp2_with (first | (refine wpList_store_row rfl 27 _ _ rfl w1.heap.size #[.int .i64 K, .int .i64 0, .int .i64 0, .int .i64 0, .int .i64 0, .int .i64 0, .int .i64 0, .int .i64 0, .int .i64 0, .int .i64 0, .int .i64 0, .int .i64 0, .int .i64 0, .int .i64 0, .int .i64 0, .int .i64 0, .string ⟨#[]⟩, .string ⟨#[]⟩, .slice none 0 0, .slice none 0 0, .slice none 0 0] rfl rfl 27 _ N1.out size27 rfl (by simp [Value.oneCell']) ?_; rw [hst.out]) | fail)
  refine (G2.out _ F2.out.rd).mono ?_
  rintro e w2 ⟨rfl, hr2, hg2⟩
  have F3 := hid (F2.out.call hr2 hg2)
  clear hr2 hg2 F2 hst N1 G2 hs1
  generalize w1.heap.size = b at *
  by_cases p1 : P < 0 ∨ 1048576 ≤ P
  · have HF : Hid (refR l = none) := by show _ = _; rw [HM.out, if_pos p1]
    have BX := hid F3.out.box
    have HR2 : Hid ((w2.setRow w.heap.size #[.int .i64 K, .int .i64 0, .int .i64 0, .int .i64 0, .int .i64 0, .int .i64 0, .int .i64 0, .int .i64 0, .int .i64 0, .int .i64 0, .int .i64 0, .int .i64 0, .int .i64 0, .int .i64 0, .int .i64 0, .int .i64 0, .string ⟨#[]⟩, .string ⟨#[]⟩, .slice none 0 0, .slice none 0 0, .slice none 0 0]).heap[w.heap.size]? = some (.cells #[.int .i64 K, .int .i64 0, .int .i64 0, .int .i64 0, .int .i64 0, .int .i64 0, .int .i64 0, .int .i64 0, .int .i64 0, .int .i64 0, .int .i64 0, .int .i64 0, .int .i64 0, .int .i64 0, .int .i64 0, .int .i64 0, .string ⟨#[]⟩, .string ⟨#[]⟩, .slice none 0 0, .slice none 0 0, .slice none 0 0] 27)) := setRow_heap _ _ _ _ 27 (0, 0) F3.out.out
    have HO := hid F3.out.out
    have HG : Hid (w.grownBy (w2.setRow w.heap.size #[.int .i64 K, .int .i64 0, .int .i64 0, .int .i64 0, .int .i64 0, .int .i64 0, .int .i64 0, .int .i64 0, .int .i64 0, .int .i64 0, .int .i64 0, .int .i64 0, .int .i64 0, .int .i64 0, .int .i64 0, .int .i64 0, .string ⟨#[]⟩, .string ⟨#[]⟩, .slice none 0 0, .slice none 0 0, .slice none 0 0]) (some q)) := by
      have hb := below_setRow (w := w2) (w3 := w2) (B := w.heap.size) (b := w.heap.size) (Below.refl _ _) (Nat.le_refl _) #[.int .i64 K, .int .i64 0, .int .i64 0, .int .i64 0, .int .i64 0, .int .i64 0, .int .i64 0, .int .i64 0, .int .i64 0, .int .i64 0, .int .i64 0, .int .i64 0, .int .i64 0, .int .i64 0, .int .i64 0, .int .i64 0, .string ⟨#[]⟩, .string ⟨#[]⟩, .slice none 0 0, .slice none 0 0, .slice none 0 0]
      exact ⟨hb.os.trans F3.out.grown.os, hb.tape.trans F3.out.grown.tape, hb.output.trans F3.out.grown.output, Nat.le_trans F3.out.grown.size hb.size, fun k hk hne => (hb.block k hk).trans (F3.out.grown.block k hk hne)⟩
    by_cases p2 : P < 0
    · go_wp2_with (first | (refine wpList_load_row rfl 27 _ rfl b rfl 27 _ (0, 0) _ BX.out Tryd.underlying27 rfl size27 ?_) | (refine wpList_store_row rfl 27 _ _ rfl w.heap.size #[.int .i64 K, .int .i64 0, .int .i64 0, .int .i64 0, .int .i64 0, .int .i64 0, .int .i64 0, .int .i64 0, .int .i64 0, .int .i64 0, .int .i64 0, .int .i64 0, .int .i64 0, .int .i64 0, .int .i64 0, .int .i64 0, .string ⟨#[]⟩, .string ⟨#[]⟩, .slice none 0 0, .slice none 0 0, .slice none 0 0] rfl rfl 27 _ HO.out size27 rfl (by simp [Value.oneCell']) ?_) | fail)
      refine bodyPost_ret (v := .tuple #[.agg #[.int .i64 K, .int .i64 0, .int .i64 0, .int .i64 0, .int .i64 0, .int .i64 0, .int .i64 0, .int .i64 0, .int .i64 0, .int .i64 0, .int .i64 0, .int .i64 0, .int .i64 0, .int .i64 0, .int .i64 0, .int .i64 0, .string ⟨#[]⟩, .string ⟨#[]⟩, .slice none 0 0, .slice none 0 0, .slice none 0 0], .bool false]) (by exact results_cell_slot Tryd.results30 _ _ w.heap.size _ rfl HR2.out rfl rfl) rfl ⟨_, false, rfl, rfl, by simp [Value.oneCell'], HG.out, fun _ => HF.out, fun h => by cases h⟩
    · have p3 : 1048576 ≤ P := by omega
      go_wp2_with (first | (refine wpList_load_row rfl 27 _ rfl b rfl 27 _ (0, 0) _ BX.out Tryd.underlying27 rfl size27 ?_) | (refine wpList_store_row rfl 27 _ _ rfl w.heap.size #[.int .i64 K, .int .i64 0, .int .i64 0, .int .i64 0, .int .i64 0, .int .i64 0, .int .i64 0, .int .i64 0, .int .i64 0, .int .i64 0, .int .i64 0, .int .i64 0, .int .i64 0, .int .i64 0, .int .i64 0, .int .i64 0, .string ⟨#[]⟩, .string ⟨#[]⟩, .slice none 0 0, .slice none 0 0, .slice none 0 0] rfl rfl 27 _ HO.out size27 rfl (by simp [Value.oneCell']) ?_) | fail)
      refine bodyPost_ret (v := .tuple #[.agg #[.int .i64 K, .int .i64 0, .int .i64 0, .int .i64 0, .int .i64 0, .int .i64 0, .int .i64 0, .int .i64 0, .int .i64 0, .int .i64 0, .int .i64 0, .int .i64 0, .int .i64 0, .int .i64 0, .int .i64 0, .int .i64 0, .string ⟨#[]⟩, .string ⟨#[]⟩, .slice none 0 0, .slice none 0 0, .slice none 0 0], .bool false]) (by exact results_cell_slot Tryd.results30 _ _ w.heap.size _ rfl HR2.out rfl rfl) rfl ⟨_, false, rfl, rfl, by simp [Value.oneCell'], HG.out, fun _ => HF.out, fun h => by cases h⟩
  have p2 : ¬ P < 0 := by omega
  have p3 : ¬ 1048576 ≤ P := by omega
  have HM2 : Hid (refR l = endR P K L N T (optB (hasB P 17) sT)) := by
    show _ = _
    rw [HM.out, if_neg p1]
  clear HM p1
  have hmk := mk15
  have hc2 := hid F3.out.lt
  have F4 := hid (F3.out.alloc (.cells #[.int .i64 0, .int .i64 0, .int .i64 0, .int .i64 0, .int .i64 0, .int .i64 0, .int .i64 0, .int .i64 0, .int .i64 0, .int .i64 0, .int .i64 0, .int .i64 0, .int .i64 0, .int .i64 0, .int .i64 0] 3))
  have R4 := hid (row15_new w2)
  have p2i : (0 : Int) ≤ P := by omega
  have hP1 : P < 1048576 := by omega
  go_wp2_with fail
  clear F3 hmk
  generalize hcq : w2.heap.size = c at *
  go_loopg [7] 15 (fun kx s7 wx => ∃ k : Nat, k ≤ 15 ∧ 15 - k ≤ kx ∧ s7 = .int .i64 k ∧ Hid (FAt w q b (someS P k sP).2 #[.int .i64 K, .int .i64 0, .int .i64 0, .int .i64 0, .int .i64 0, .int .i64 0, .int .i64 0, .int .i64 0, .int .i64 0, .int .i64 0, .int .i64 0, .int .i64 0, .int .i64 0, .int .i64 0, .int .i64 0, .int .i64 0, .string ⟨#[]⟩, .string ⟨#[]⟩, .slice none 0 0, .slice none 0 0, .slice none 0 0] wx ∧ Row15 wx c (someS P k sP).1))
  case atStart => exact ⟨0, by omega, by omega, rfl, F4.out, R4.out⟩
  case round =>
    clear F4 R4
    obtain ⟨k, hk, hkx, rfl, HD⟩ := hrel
    by_cases hltk : k < 15
    · have hlt' : (k : Int) < 15 := by omega
      have i0' : (0 : Int) ≤ (k : Int) := by omega
      have hq := shr_has P k p2i
      have hlen := someS_length P k sP
      have HST : Hid (someS P (k + 1) sP = ((someS P k sP).1 ++ [(optN (hasB P k) (someS P k sP).2).1], (optN (hasB P k) (someS P k sP).2).2)) := rfl
      generalize hasB P k = Bk at *
      cases Bk with
      | false =>
        have HN2 : Hid (FAt w q b (someS P (k + 1) sP).2 #[.int .i64 K, .int .i64 0, .int .i64 0, .int .i64 0, .int .i64 0, .int .i64 0, .int .i64 0, .int .i64 0, .int .i64 0, .int .i64 0, .int .i64 0, .int .i64 0, .int .i64 0, .int .i64 0, .int .i64 0, .int .i64 0, .string ⟨#[]⟩, .string ⟨#[]⟩, .slice none 0 0, .slice none 0 0, .slice none 0 0] wr ∧ Row15 wr c (someS P (k + 1) sP).1) := by rw [HST.out]; exact ⟨HD.out.1, HD.out.2.zero⟩
        go_wp2_with fail
        go_roundg (15 - (k + 1))
        case measure => omega
        case rel => exact ⟨k + 1, by omega, Nat.le_refl _, by go_num, HN2⟩
      | true =>
        have C := hid (rnumber_any HD.out.1.rd)
        have HOP : Hid (optN true (someS P k sP).2 = numS (someS P k sP).2) := rfl
        rw [HOP.out] at HST
        have HPUT := hid (fun (W : World) (n : Int) (h : Row15 W c (someS P k sP).1) => h.put n (by omega))
        rw [hlen] at HPUT
        go_wp2_with fail
        refine C.out.mono ?_
        rintro e w5 ⟨rfl, hr5, hg5⟩
        have R5 := hid (HD.out.2.kept (hg5.block c HD.out.2.lt (fun e => by have := HD.out.1.low; have := HD.out.1.mid; have := hc2.out; cases e; omega)))
        have F5 := hid (HD.out.1.call hr5 hg5)
        have d1 := R5.out.cell k (by omega)
        have d2 := R5.out.free k
        have HN2 : Hid (FAt w q b (someS P (k + 1) sP).2 #[.int .i64 K, .int .i64 0, .int .i64 0, .int .i64 0, .int .i64 0, .int .i64 0, .int .i64 0, .int .i64 0, .int .i64 0, .int .i64 0, .int .i64 0, .int .i64 0, .int .i64 0, .int .i64 0, .int .i64 0, .int .i64 0, .string ⟨#[]⟩, .string ⟨#[]⟩, .slice none 0 0, .slice none 0 0, .slice none 0 0] (w5.setCell ⟨c, k, none⟩ (.int .i64 (numS (someS P k sP).2).1)) ∧ Row15 (w5.setCell ⟨c, k, none⟩ (.int .i64 (numS (someS P k sP).2).1)) c (someS P (k + 1) sP).1) := by rw [HST.out]; exact ⟨F5.out.else c k _ hc2.out, HPUT.out w5 _ R5.out⟩
        clear hr5 hg5 C
        go_wp2_with fail
        go_roundg (15 - (k + 1))
        case measure => omega
        case rel => exact ⟨k + 1, by omega, Nat.le_refl _, by go_num, HN2⟩
    · have hlt' : ¬ (k : Int) < 15 := by omega
      obtain rfl : k = 15 := by omega
      have F0 : Hid (FAt w q b sL #[.int .i64 K, .int .i64 0, .int .i64 0, .int .i64 0, .int .i64 0, .int .i64 0, .int .i64 0, .int .i64 0, .int .i64 0, .int .i64 0, .int .i64 0, .int .i64 0, .int .i64 0, .int .i64 0, .int .i64 0, .int .i64 0, .string ⟨#[]⟩, .string ⟨#[]⟩, .slice none 0 0, .slice none 0 0, .slice none 0 0] wr) := by have := HD.out.1; rw [HLs.out] at this; exact this
      have R0 : Hid (Row15 wr c L) := by have := HD.out.2; rw [HLs.out] at this; exact this
      obtain ⟨x0, x1, x2, x3, x4, x5, x6, x7, x8, x9, x10, x11, x12, x13, x14, hLL⟩ : ∃ x0 x1 x2 x3 x4 x5 x6 x7 x8 x9 x10 x11 x12 x13 x14 : Int, L = [x0, x1, x2, x3, x4, x5, x6, x7, x8, x9, x10, x11, x12, x13, x14] := by
        match L, hL15 with
        | [a0, a1, a2, a3, a4, a5, a6, a7, a8, a9, a10, a11, a12, a13, a14], _ => exact ⟨a0, a1, a2, a3, a4, a5, a6, a7, a8, a9, a10, a11, a12, a13, a14, rfl⟩
      subst hLL
      rename (∀ (a : Act) (w : World), Code.wp Tryd.prog _ _ a w → _) => hK3
      have HK3 := hid hK3
      clear hK3
      go_wp2_with fail
      refine HK3.out _ _ ?_
      exact rd_copy p2i hP1 F0.out R0.out hc2.out HNs.out HTs.out HM2.out
end Go.Proofs.YtocdlaoklagdoaaDoor
