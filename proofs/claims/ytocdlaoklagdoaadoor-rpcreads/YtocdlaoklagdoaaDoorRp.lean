/- readParts. -/
import Derived.Test.YtocdlaoklagdoaaDoorRn
import Derived.Deep.CutRange
import Derived.Deep.WholeRow
namespace Go.Proofs.YtocdlaoklagdoaaDoor
open Go.RowKit Go.Maps
set_option linter.unusedSimpArgs false
set_option linter.unusedVariables false
set_option maxRecDepth 100000

/-- Where readParts stands: the reader, the box that is told, the message's own. -/
structure RAt (w : World) (q b : Nat) (s : RS) (cs : Array Value) (W : World) : Prop where
  rd : Pd W q s
  out : W.heap[w.heap.size]? = some (.cells #[.int .i64 0, .int .i64 0, .int .i64 0, .int .i64 0, .int .i64 0, .int .i64 0, .int .i64 0, .int .i64 0, .int .i64 0, .int .i64 0, .int .i64 0, .int .i64 0, .int .i64 0, .int .i64 0, .int .i64 0, .int .i64 0, .string ⟨#[]⟩, .string ⟨#[]⟩, .slice none 0 0, .slice none 0 0, .slice none 0 0] 27)
  box : W.heap[b]? = some (.cells cs 27)
  grown : w.grownBy W (some q)
  low : q < w.heap.size
  mid : w.heap.size < b
theorem RAt.lt {w q b s cs W} (h : RAt w q b s cs W) : b < W.heap.size := lt_of_row h.box
theorem RAt.call {w q b s cs W} (h : RAt w q b s cs W) {W' : World} {s' : RS} (hr : Pd W' q s') (hg : W.grownBy W' (some q)) : RAt w q b s' cs W' := by
  have h1 := h.low
  have h2 := h.mid
  have h3 := h.lt
  exact ⟨hr, (hg.block _ (by omega) (fun e => by cases e; omega)).trans h.out, (hg.block _ h3 (fun e => by cases e; omega)).trans h.box, h.grown.trans hg, h1, h2⟩
theorem RAt.set {w q b s cs W} (h : RAt w q b s cs W) (j : Nat) (u : Value) : RAt w q b s (cs.setIfInBounds j u) (W.setCell ⟨b, j, none⟩ u) := by
  have h1 := h.low
  have h2 := h.mid
  refine ⟨h.rd.set _ _ _ (by omega), ?_, ?_, grown_set h.grown _ _ _ (by omega), h1, h2⟩
  · rw [Below.heap_setCell W ⟨b, j, none⟩ u w.heap.size (by show _ ≠ b; omega)]; exact h.out
  · rw [setCell_eq_setRow W b j _ 27 (0, 0) u h.box, setRow_heap W b _ _ 27 (0, 0) h.box]
theorem RAt.keepCall {w q b s cs W} (h : RAt w q b s cs W) {W' : World} (hg : W.grownBy W' (some q)) : ∀ j, b + 1 ≤ j → j < W.heap.size → W'.heap[j]? = W.heap[j]? := fun j h1 h2 => by
  have h3 := h.low
  have h4 := h.mid
  exact hg.block j h2 (fun e => by cases e; omega)
theorem RAt.keepSet {w q b s cs W} (h : RAt w q b s cs W) (i : Nat) (u : Value) : ∀ j, b + 1 ≤ j → j < W.heap.size → (W.setCell ⟨b, i, none⟩ u).heap[j]? = W.heap[j]? := fun j h1 h2 => Below.heap_setCell W ⟨b, i, none⟩ u j (by show _ ≠ b; omega)
theorem set_size (W : World) (a : Addr) (u : Value) : (W.setCell a u).heap.size = W.heap.size := by simp [World.setCell]
theorem cells21_one (k : Int) (L : List Int) (e : Int) (n t : List UInt8) (a b c : Value) (ha : a.oneCell' = true) (hb : b.oneCell' = true) (hc : c.oneCell' = true) : (cells21 k L e n t a b c).all (·.oneCell') = true := by
  simp [cells21, Value.oneCell'] at *
  exact ⟨ha, hb, hc⟩
theorem numS_ok (s : RS) : I64 (numS s).1 := numS_i64 s

set_option maxHeartbeats 6400000 in
theorem readParts_any {w : World} {q : Nat} {s : RS} (h : Pd w q s) : Calls Tryd.prog 39 #[.pointer (some ⟨q, 0, none⟩)] w fun e w' => ∃ ba bc ea ec ia ic, e = .returned (.agg (cells21 (partsS s).1.kind (nums (partsS s).1) (partsS s).1.err (partsS s).1.name (partsS s).1.text (.slice ba (partsS s).1.bats.length bc) (.slice ea (partsS s).1.ents.length ec) (.slice ia (partsS s).1.ints.length ic))) ∧ Pd w' q (partsS s).2 ∧ w.grownBy w' (some q) ∧ BatsHi w.heap.size w' ba (partsS s).1.bats ∧ EntsHi w.heap.size w' ea (partsS s).1.ents ∧ IntsHi w.heap.size w' ia (partsS s).1.ints := by
  have hlt := h.lt
  have HR : Hid (∀ O, Pd (w.alloc O) q s) := fun O => h.kept (Below.heap_alloc w O q hlt)
  clear h
  obtain ⟨K, sK, hK⟩ : ∃ K sK, numS s = (K, sK) := ⟨_, _, rfl⟩
  obtain ⟨P, sP, hP⟩ : ∃ P sP, numS sK = (P, sP) := ⟨_, _, rfl⟩
  obtain ⟨L, sL, hL⟩ : ∃ L sL, someS P 14 sP = (L, sL) := ⟨_, _, rfl⟩
  obtain ⟨E, sE, hE⟩ : ∃ E sE, optN (hasB P 14) sL = (E, sE) := ⟨_, _, rfl⟩
  obtain ⟨N, sN, hN⟩ : ∃ N sN, optT (hasB P 15) 32 sE = (N, sN) := ⟨_, _, rfl⟩
  obtain ⟨T, sT, hT⟩ : ∃ T sT, optT (hasB P 16) 65528 sN = (T, sT) := ⟨_, _, rfl⟩
  obtain ⟨BS, sB, hB⟩ : ∃ BS sB, optL (hasB P 17) 64 batS sT = (BS, sB) := ⟨_, _, rfl⟩
  obtain ⟨ES, sS, hES⟩ : ∃ ES sS, optL (hasB P 18) 64 entS sB = (ES, sS) := ⟨_, _, rfl⟩
  obtain ⟨IS, sI, hIS⟩ : ∃ IS sI, optL (hasB P 19) 256 numS sS = (IS, sI) := ⟨_, _, rfl⟩
  have HM : Hid (partsS s = (msgOf K L E N T BS ES IS, sI)) := by
    show _ = _
    unfold partsS
    simp only [hK, hP, hL, hE, hN, hT, hB, hES, hIS]
  have hL14 : L.length = 14 := by have := someS_length P 14 sP; rw [hL] at this; exact this
  have HNM : Hid (nums (msgOf K L E N T BS ES IS) = L) := by
    show _ = _
    match L, hL14 with
    | [a0, a1, a2, a3, a4, a5, a6, a7, a8, a9, a10, a11, a12, a13], _ => rfl
  have hPi : I64 P := by have := numS_ok sK; rw [hP] at this; exact this
  have G1 : Hid (∀ W, Pd W q s → Calls Tryd.prog 51 #[.pointer (some ⟨q, 0, none⟩)] W fun e w' => e = .returned (.int .i64 K) ∧ Pd w' q sK ∧ W.grownBy w' (some q)) := fun W h => by have := pnum_any h; rw [hK] at this; exact this
  have G2 : Hid (∀ W, Pd W q sK → Calls Tryd.prog 51 #[.pointer (some ⟨q, 0, none⟩)] W fun e w' => e = .returned (.int .i64 P) ∧ Pd w' q sP ∧ W.grownBy w' (some q)) := fun W h => by have := pnum_any h; rw [hP] at this; exact this
  have G3 : Hid (∀ W, Pd W q sP → Calls Tryd.prog 53 #[.pointer (some ⟨q, 0, none⟩), .int .i64 P] W fun e w' => e = .returned (.agg #[.int .i64 (L.getD 0 0), .int .i64 (L.getD 1 0), .int .i64 (L.getD 2 0), .int .i64 (L.getD 3 0), .int .i64 (L.getD 4 0), .int .i64 (L.getD 5 0), .int .i64 (L.getD 6 0), .int .i64 (L.getD 7 0), .int .i64 (L.getD 8 0), .int .i64 (L.getD 9 0), .int .i64 (L.getD 10 0), .int .i64 (L.getD 11 0), .int .i64 (L.getD 12 0), .int .i64 (L.getD 13 0)]) ∧ Pd w' q sL ∧ W.grownBy w' (some q)) := fun W h => by have := readNumbers_any h P hPi; rw [hL] at this; exact this
  have G4 := hid (ofNumbers_any L)
  have F14 := hid (has14 P hPi)
  obtain ⟨B14, hB14⟩ : ∃ B, B = hasB P 14 := ⟨_, rfl⟩
  rw [← hB14] at F14
  have F15 := hid (has15 P hPi)
  obtain ⟨B15, hB15⟩ : ∃ B, B = hasB P 15 := ⟨_, rfl⟩
  rw [← hB15] at F15
  have F16 := hid (has16 P hPi)
  obtain ⟨B16, hB16⟩ : ∃ B, B = hasB P 16 := ⟨_, rfl⟩
  rw [← hB16] at F16
  have F17 := hid (has17 P hPi)
  obtain ⟨B17, hB17⟩ : ∃ B, B = hasB P 17 := ⟨_, rfl⟩
  rw [← hB17] at F17
  have F18 := hid (has18 P hPi)
  obtain ⟨B18, hB18⟩ : ∃ B, B = hasB P 18 := ⟨_, rfl⟩
  rw [← hB18] at F18
  have F19 := hid (has19 P hPi)
  obtain ⟨B19, hB19⟩ : ∃ B, B = hasB P 19 := ⟨_, rfl⟩
  rw [← hB19] at F19
  rw [← hB14] at hE
  rw [← hB15] at hN
  rw [← hB16] at hT
  rw [← hB17] at hB
  rw [← hB18] at hES
  rw [← hB19] at hIS
  have HE := hid hE
  have HN := hid hN
  have HT := hid hT
  have HB := hid hB
  have HES := hid hES
  have HIS := hid hIS
  clear hK hP hL hE hN hT hB hES hIS hB14 hB15 hB16 hB17 hB18 hB19 hL14 hPi
  go_enter Tryd.func39, Tryd.ntmps39
  go_wp2_with fail
  refine (G1.out _ (HR.out _)).mono ?_
  rintro e w1 ⟨rfl, hr1, hg1⟩
  go_wp2_with fail
  refine (G2.out _ hr1).mono ?_
  rintro e w2 ⟨rfl, hr2, hg2⟩
  go_wp2_with fail
  refine (G3.out _ hr2).mono ?_
  rintro e w3 ⟨rfl, hr3, hg3⟩
  have hg := hid ((hg1.trans hg2).trans hg3)
  have HR3 := hid hr3
  clear hg1 hg2 hg3 hr1 hr2 hr3 G1 G2 G3
  go_wp2_with fail
  refine (G4.out _).mono ?_
  rintro e w4 ⟨rfl, hb4⟩
  have hs4 : w.heap.size < w4.heap.size := by have h1 := hg.out.size; have h2 := hb4.size; simp at h1; omega
  have R5a : Hid (∀ cs, RAt w q w4.heap.size sL cs (w4.alloc (.cells cs 27))) := fun cs => by
    have hq3 := HR3.out.lt
    have hob := grown_box hg.out hlt
    have h1 := hg.out.size
    simp at h1
    refine ⟨HR3.out.kept ?_, ?_, heap_alloc_new _ _, ?_, hlt, hs4⟩
    · rw [Below.heap_alloc _ _ _ (by have := hb4.size; omega)]; exact hb4.block q hq3
    · rw [Below.heap_alloc _ _ _ hs4, hb4.block _ (by omega)]; exact hob
    · exact (((World.grownBy_alloc w _ (some q)).trans hg.out).trans (grown_below hb4)).trans (World.grownBy_alloc _ _ _)
  have R5 := hid (R5a.out (cells21 0 L 0 [] [] nilV nilV nilV))
  have hst : Hid (((w4.alloc (.cells #[.int .i64 0, .int .i64 0, .int .i64 0, .int .i64 0, .int .i64 0, .int .i64 0, .int .i64 0, .int .i64 0, .int .i64 0, .int .i64 0, .int .i64 0, .int .i64 0, .int .i64 0, .int .i64 0, .int .i64 0, .int .i64 0, .string ⟨#[]⟩, .string ⟨#[]⟩, .slice none 0 0, .slice none 0 0, .slice none 0 0] 27)).setRow w4.heap.size (cells21 0 L 0 [] [] nilV nilV nilV)) = (w4.alloc (.cells (cells21 0 L 0 [] [] nilV nilV nilV) 27))) := World.setRow_alloc_new _ _ _ _
  have c0 := cell_blk R5.out.box 0 (.int .i64 0) rfl
  have f0 := frozen_blk R5.out.box 0
  clear hb4 HR3 hg HR G4
  go_upto_if 17 with (first | (refine wpList_store_row rfl 27 _ _ rfl w4.heap.size (cells21 0 L 0 [] [] nilV nilV nilV) rfl rfl 27 _ (heap_alloc_new w4 _) size27 rfl (cells21_one _ _ _ _ _ _ _ _ rfl rfl rfl) ?_; rw [hst.out]) | (go_at_call 54; refine (F14.out _).mono ?_; rintro e w6 ⟨rfl, rfl⟩))
  have R6 : Hid (RAt w q w4.heap.size sL (cells21 K L 0 [] [] nilV nilV nilV) (w4.alloc (.cells ((cells21 0 L 0 [] [] nilV nilV nilV).setIfInBounds 0 (.int .i64 K)) 27))) := R5a.out (cells21 K L 0 [] [] nilV nilV nilV)
  clear c0 f0 R5 R5a hst F14
  generalize (w4.alloc (.cells ((cells21 0 L 0 [] [] nilV nilV nilV).setIfInBounds 0 (.int .i64 K)) 27)) = w6 at *
  generalize w4.heap.size = b at *
  go_cut [] from 16 (fun wx => Hid (RAt w q b sE (cells21 K L E [] [] nilV nilV nilV) wx))
  case first =>
    cases B14 with
    | false =>
      have e := HE.out
      simp only [optN, Bool.false_eq_true, if_false, Prod.mk.injEq] at e
      obtain ⟨e1, e2⟩ := e
      subst e1
      subst e2
      go_wp2_with fail
      go_meet
      exact R6
    | true =>
      have C := hid (pnum_any R6.out.rd)
      have e := HE.out
      simp only [optN, if_true] at e
      rw [e] at C
      clear e
      go_wp2_with fail
      refine C.out.mono ?_
      rintro e w7 ⟨rfl, hr7, hg7⟩
      have R7 := hid (R6.out.call hr7 hg7)
      have c := cell_blk R7.out.box 15 (.int .i64 0) rfl
      have f := frozen_blk R7.out.box 15
      have R8 : Hid (RAt w q b sE (cells21 K L E [] [] nilV nilV nilV) (w7.setCell ⟨b, 15, none⟩ (.int .i64 E))) := R7.out.set 15 (.int .i64 E)
      clear hr7 hg7
      go_wp2_with fail
      go_meet
      exact R8
  case rest =>
  have R6 := hid hcut.out
  clear hcut HE
  generalize wc = w6 at *
  go_upto_if 22 with (go_at_call 54; refine (F15.out _).mono ?_; rintro e w9 ⟨rfl, rfl⟩)
  clear F15
  go_cut [] from 16 (fun wx => Hid (RAt w q b sN (cells21 K L E N [] nilV nilV nilV) wx))
  case first =>
    cases B15 with
    | false =>
      have e := HN.out
      simp only [optT, Bool.false_eq_true, if_false, Prod.mk.injEq] at e
      obtain ⟨e1, e2⟩ := e
      subst e1
      subst e2
      go_wp2_with fail
      go_meet
      exact R6
    | true =>
      have C := hid (ptext_any R6.out.rd 32 (by omega) (by omega))
      have e := HN.out
      simp only [optT, if_true] at e
      rw [e] at C
      clear e
      go_wp2_with fail
      refine C.out.mono ?_
      rintro e w7 ⟨rfl, hr7, hg7⟩
      have R7 := hid (R6.out.call hr7 hg7)
      have c := cell_blk R7.out.box 16 (.string ⟨#[]⟩) rfl
      have f := frozen_blk R7.out.box 16
      have R8 : Hid (RAt w q b sN (cells21 K L E N [] nilV nilV nilV) (w7.setCell ⟨b, 16, none⟩ (.string (strOf N)))) := R7.out.set 16 (.string (strOf N))
      clear hr7 hg7
      go_wp2_with fail
      go_meet
      exact R8
  case rest =>
  have R6 := hid hcut.out
  clear hcut HN
  generalize wc = w6 at *
  go_upto_if 27 with (go_at_call 54; refine (F16.out _).mono ?_; rintro e w9 ⟨rfl, rfl⟩)
  clear F16
  go_cut [] from 16 (fun wx => Hid (RAt w q b sT (cells21 K L E N T nilV nilV nilV) wx))
  case first =>
    cases B16 with
    | false =>
      have e := HT.out
      simp only [optT, Bool.false_eq_true, if_false, Prod.mk.injEq] at e
      obtain ⟨e1, e2⟩ := e
      subst e1
      subst e2
      go_wp2_with fail
      go_meet
      exact R6
    | true =>
      have C := hid (ptext_any R6.out.rd 65528 (by omega) (by omega))
      have e := HT.out
      simp only [optT, if_true] at e
      rw [e] at C
      clear e
      go_wp2_with fail
      refine C.out.mono ?_
      rintro e w7 ⟨rfl, hr7, hg7⟩
      have R7 := hid (R6.out.call hr7 hg7)
      have c := cell_blk R7.out.box 17 (.string ⟨#[]⟩) rfl
      have f := frozen_blk R7.out.box 17
      have R8 : Hid (RAt w q b sT (cells21 K L E N T nilV nilV nilV) (w7.setCell ⟨b, 17, none⟩ (.string (strOf T)))) := R7.out.set 17 (.string (strOf T))
      clear hr7 hg7
      go_wp2_with fail
      go_meet
      exact R8
  case rest =>
  have R6 := hid hcut.out
  clear hcut HT
  generalize wc = w6 at *
  go_upto_if 32 with (go_at_call 54; refine (F17.out _).mono ?_; rintro e w9 ⟨rfl, rfl⟩)
  clear F17
  go_cut [] from 16 (fun wx => ∃ ba bc, Hid (RAt w q b sB (cells21 K L E N T (.slice ba BS.length bc) nilV nilV) wx ∧ BatsHi (b + 1) wx ba BS))
  case first =>
    cases B17 with
    | false =>
      have e := HB.out
      simp only [optL, Bool.false_eq_true, if_false, Prod.mk.injEq] at e
      obtain ⟨e1, e2⟩ := e
      subst e1
      subst e2
      go_wp2_with fail
      go_meet
      exact ⟨none, 0, R6.out, .inl rfl⟩
    | true =>
      have C := hid (list56_any R6.out.rd)
      have e := HB.out
      simp only [optL, if_true] at e
      rw [e] at C
      clear e
      have hb6 := R6.out.lt
      go_wp2_with fail
      refine C.out.mono ?_
      rintro e w7 ⟨ba, bc, rfl, hr7, hg7, hl7⟩
      have R7 := hid (R6.out.call hr7 hg7)
      have cc := cell_blk R7.out.box 18 (.slice none 0 0) rfl
      have ff := frozen_blk R7.out.box 18
      have R8 : Hid (RAt w q b sB (cells21 K L E N T (.slice ba BS.length bc) nilV nilV) (w7.setCell ⟨b, 18, none⟩ (.slice ba BS.length bc)) ∧ BatsHi (b + 1) (w7.setCell ⟨b, 18, none⟩ (.slice ba BS.length bc)) ba BS) := ⟨R7.out.set 18 (.slice ba BS.length bc), (hl7.low (by omega)).keep (R7.out.keepSet _ _) (by rw [set_size]; exact Nat.le_refl _)⟩
      clear hr7 hg7 hl7
      go_wp2_with fail
      go_meet
      exact ⟨ba, bc, R8⟩
  case rest =>
  obtain ⟨ba, bc, hc⟩ := hcut
  have R6 := hid hc.out
  clear hc HB
  generalize wc = w6 at *
  go_upto_if 37 with (go_at_call 54; refine (F18.out _).mono ?_; rintro e w9 ⟨rfl, rfl⟩)
  clear F18
  go_cut [] from 16 (fun wx => ∃ ea ec, Hid (RAt w q b sS (cells21 K L E N T (.slice ba BS.length bc) (.slice ea ES.length ec) nilV) wx ∧ EntsHi (b + 1) wx ea ES ∧ BatsHi (b + 1) wx ba BS))
  case first =>
    cases B18 with
    | false =>
      have e := HES.out
      simp only [optL, Bool.false_eq_true, if_false, Prod.mk.injEq] at e
      obtain ⟨e1, e2⟩ := e
      subst e1
      subst e2
      go_wp2_with fail
      go_meet
      exact ⟨none, 0, R6.out.1, .inl rfl, R6.out.2⟩
    | true =>
      have C := hid (list58_any R6.out.1.rd)
      have e := HES.out
      simp only [optL, if_true] at e
      rw [e] at C
      clear e
      have hb6 := R6.out.1.lt
      go_wp2_with fail
      refine C.out.mono ?_
      rintro e w7 ⟨ea, ec, rfl, hr7, hg7, hl7⟩
      have R7 := hid (R6.out.1.call hr7 hg7)
      have cc := cell_blk R7.out.box 19 (.slice none 0 0) rfl
      have ff := frozen_blk R7.out.box 19
      have R8 : Hid (RAt w q b sS (cells21 K L E N T (.slice ba BS.length bc) (.slice ea ES.length ec) nilV) (w7.setCell ⟨b, 19, none⟩ (.slice ea ES.length ec)) ∧ EntsHi (b + 1) (w7.setCell ⟨b, 19, none⟩ (.slice ea ES.length ec)) ea ES ∧ BatsHi (b + 1) (w7.setCell ⟨b, 19, none⟩ (.slice ea ES.length ec)) ba BS) := ⟨R7.out.set 19 (.slice ea ES.length ec), (hl7.low (by omega)).keep (R7.out.keepSet _ _) (by rw [set_size]; exact Nat.le_refl _), (R6.out.2.keep (R6.out.1.keepCall hg7) hg7.size).keep (R7.out.keepSet _ _) (by rw [set_size]; exact Nat.le_refl _)⟩
      clear hr7 hg7 hl7
      go_wp2_with fail
      go_meet
      exact ⟨ea, ec, R8⟩
  case rest =>
  obtain ⟨ea, ec, hc⟩ := hcut
  have R6 := hid hc.out
  clear hc HES
  generalize wc = w6 at *
  go_upto_if 42 with (go_at_call 54; refine (F19.out _).mono ?_; rintro e w9 ⟨rfl, rfl⟩)
  clear F19
  go_cut [] from 16 (fun wx => ∃ ia ic, Hid (RAt w q b sI (cells21 K L E N T (.slice ba BS.length bc) (.slice ea ES.length ec) (.slice ia IS.length ic)) wx ∧ IntsHi (b + 1) wx ia IS ∧ EntsHi (b + 1) wx ea ES ∧ BatsHi (b + 1) wx ba BS))
  case first =>
    cases B19 with
    | false =>
      have e := HIS.out
      simp only [optL, Bool.false_eq_true, if_false, Prod.mk.injEq] at e
      obtain ⟨e1, e2⟩ := e
      subst e1
      subst e2
      go_wp2_with fail
      go_meet
      exact ⟨none, 0, R6.out.1, .inl rfl, R6.out.2.1, R6.out.2.2⟩
    | true =>
      have C := hid (list60_any R6.out.1.rd)
      have e := HIS.out
      simp only [optL, if_true] at e
      rw [e] at C
      clear e
      have hb6 := R6.out.1.lt
      go_wp2_with fail
      refine C.out.mono ?_
      rintro e w7 ⟨ia, ic, rfl, hr7, hg7, hl7⟩
      have R7 := hid (R6.out.1.call hr7 hg7)
      have cc := cell_blk R7.out.box 20 (.slice none 0 0) rfl
      have ff := frozen_blk R7.out.box 20
      have R8 : Hid (RAt w q b sI (cells21 K L E N T (.slice ba BS.length bc) (.slice ea ES.length ec) (.slice ia IS.length ic)) (w7.setCell ⟨b, 20, none⟩ (.slice ia IS.length ic)) ∧ IntsHi (b + 1) (w7.setCell ⟨b, 20, none⟩ (.slice ia IS.length ic)) ia IS ∧ EntsHi (b + 1) (w7.setCell ⟨b, 20, none⟩ (.slice ia IS.length ic)) ea ES ∧ BatsHi (b + 1) (w7.setCell ⟨b, 20, none⟩ (.slice ia IS.length ic)) ba BS) := ⟨R7.out.set 20 (.slice ia IS.length ic), (hl7.low (by omega)).keep (R7.out.keepSet _ _) (by rw [set_size]; exact Nat.le_refl _), (R6.out.2.1.keep (R6.out.1.keepCall hg7) hg7.size).keep (R7.out.keepSet _ _) (by rw [set_size]; exact Nat.le_refl _), (R6.out.2.2.keep (R6.out.1.keepCall hg7) hg7.size).keep (R7.out.keepSet _ _) (by rw [set_size]; exact Nat.le_refl _)⟩
      clear hr7 hg7 hl7
      go_wp2_with fail
      go_meet
      exact ⟨ia, ic, R8⟩
  case rest =>
  obtain ⟨ia, ic, hc⟩ := hcut
  have R6 := hid hc.out
  clear hc HIS
  generalize wc = w6 at *
  have HBx := hid R6.out.1.box
  have HOx := hid R6.out.1.out
  go_wp2_with (first | (refine wpList_load_row rfl 27 _ rfl b rfl 27 (cells21 K L E N T (.slice ba BS.length bc) (.slice ea ES.length ec) (.slice ia IS.length ic)) (0, 0) _ HBx.out Tryd.underlying27 rfl size27 ?_) | (refine wpList_store_row rfl 27 _ _ rfl w.heap.size (cells21 K L E N T (.slice ba BS.length bc) (.slice ea ES.length ec) (.slice ia IS.length ic)) rfl rfl 27 _ HOx.out size27 rfl (cells21_one _ _ _ _ _ _ _ _ rfl rfl rfl) ?_))
  have hmid := R6.out.1.mid
  have hlow := R6.out.1.low
  have hkp : ∀ j, b + 1 ≤ j → j < w6.heap.size → (w6.setRow w.heap.size (cells21 K L E N T (.slice ba BS.length bc) (.slice ea ES.length ec) (.slice ia IS.length ic))).heap[j]? = w6.heap[j]? := fun j h1 h2 => setRow_other _ _ _ _ (by omega)
  refine bodyPost_ret (v := .agg (cells21 K L E N T (.slice ba BS.length bc) (.slice ea ES.length ec) (.slice ia IS.length ic))) (by exact results_cell_row Tryd.results39 _ _ w.heap.size 27 _ (0, 0) _ rfl (setRow_heap _ _ _ _ 27 (0, 0) HOx.out) Tryd.underlying27 rfl size27) rfl ⟨ba, bc, ea, ec, ia, ic, ?_, ?_, ?_, ?_, ?_, ?_⟩
  · rw [HM.out]; simp only; rw [HNM.out]; rfl
  · rw [HM.out]; exact R6.out.1.rd.row _ _ (by omega)
  · exact grown_setRow R6.out.1.grown _ _ (Nat.le_refl _)
  · rw [HM.out]; exact (R6.out.2.2.2.keep hkp (by rw [setRow_size]; exact Nat.le_refl _)).low (by omega)
  · rw [HM.out]; exact (R6.out.2.2.1.keep hkp (by rw [setRow_size]; exact Nat.le_refl _)).low (by omega)
  · rw [HM.out]; exact (R6.out.2.1.keep hkp (by rw [setRow_size]; exact Nat.le_refl _)).low (by omega)
end Go.Proofs.YtocdlaoklagdoaaDoor
