/- Partitions are read back. -/
import Derived.Test.YtcffomhcmilcpaaGreatKB8
import Derived.Test.YtcffomhcmilcpaaGreatKB3
namespace Go.Proofs.YtcffomhcmilcpaaGreat
open Go.RowKit Go.Maps
set_option maxRecDepth 100000
set_option linter.unusedSimpArgs false
set_option linter.unusedVariables false

@[reducible] def wPt (J : Im) (ps : List Pt) : Im := { J with parts := ps }
theorem pt_ok {J : Im} {P : List Pt} (h : ImOk (wPt J P)) (k : Nat) : ImOk (wPt J (P.take k)) :=
  ⟨h.keys, h.brs, fun i p hp => h.parts i p (by
    have hp' : (P.take k)[i]? = some p := hp
    rw [List.getElem?_take] at hp'
    split at hp'
    · exact hp'
    · cases hp'), by show (P.take k).length ≤ 16; have : P.length ≤ 16 := h.few; simp; omega, h.tops, h.name, h.nums, h.eps, h.epv, h.app⟩
set_option maxHeartbeats 12800000 in
theorem readParts_any {w U : World} {q x : Nat} {J : Im} {P : List Pt} {l : List UInt8} (h : LE w U q x (wPt J []) (W.intL (P.length : Int) ++ (ptB P ++ l))) (hn : nxT J.tops = (P.length : Int) + 1) (hok : ImOk (wPt J P)) :
    Calls Tryz.prog 46 #[.pointer (some ⟨q, 0, none⟩), .pointer (some ⟨x, 0, none⟩)] U fun e w' => e = .returned (.bool true) ∧ LE w w' q x (wPt J P) l := by
  obtain ⟨Z, h⟩ := h
  have hl16 : P.length ≤ 16 := hok.few
  have HC := hid (h.count (n := (P.length : Int)) (most := 16) ⟨by omega, by omega⟩ (by omega))
  have HOK := hid hok
  have HNX := hid hn
  clear h hok hn
  go_enter Tryz.func46, Tryz.ntmps46
  go_wp2_with fail
  refine HC.out.mono ?_
  rintro e U1 ⟨rfl, ho⟩
  have HNP : Hid (Calls Tryz.prog 94 #[.pointer (some ⟨q, 0, none⟩)] U1 fun e w' => e = .returned (.int .i64 ((P.length : Int) + 1)) ∧ Below U1.heap.size U1 w') := by
    obtain ⟨⟨⟨L, b, vt, vp, ve, ps, h1, _⟩, _⟩, _⟩ := ho.1
    have := nextPart_any h1
    have e : nxT (wPt J []).tops = (P.length : Int) + 1 := HNX.out
    rw [e] at this
    exact this
  have HL1 := hid ho.1
  clear ho HC
  have hw1 : IntKind.i64.wrap ((P.length : Int) + 1 - 1) = (P.length : Int) := by rw [show (P.length : Int) + 1 - 1 = (P.length : Int) by omega]; exact IntWalk.i64_in _ ⟨by omega, by omega⟩
  go_wp2_with fail
  refine HNP.out.mono ?_
  rintro e U2 ⟨rfl, hb2⟩
  have H0 : Hid (LE w U2 q x (wPt J (P.take 0)) (((P.drop 0).map ptOne).flatten ++ l)) := ⟨Z, HL1.out.under hb2⟩
  clear hb2 HL1 HNP
  go_wp2_with fail
  go_loopg [16] P.length (fun kx s16 wr => ∃ (k : Nat), k ≤ P.length ∧ P.length - k ≤ kx ∧ s16 = .int .i64 (k : Int) ∧ Hid (LE w wr q x (wPt J (P.take k)) (((P.drop k).map ptOne).flatten ++ l)))
  case atStart => exact ⟨0, Nat.zero_le _, by omega, rfl, H0.out⟩
  case round =>
    obtain ⟨k, hk, hkx, rfl, HR⟩ := hrel
    clear H0
    by_cases hlt : k < P.length
    · have hlt' : (k : Int) < (P.length : Int) := by omega
      obtain ⟨hri, hid0⟩ := HOK.out.parts k _ (List.getElem?_eq_getElem hlt)
      have HRI := hid hri
      have HID := hid hid0
      have HNO := hid (pt_ok HOK.out (k + 1))
      have HTK : Hid (P.take (k + 1) = P.take k ++ [P[k]]) := by show _ = _; exact List.take_succ_eq_append_getElem hlt
      obtain ⟨Z, hZ⟩ := HR.out
      have HR0 : Hid (LS w wr Z q x (wPt J (P.take k)) (ptOne P[k] ++ (((P.drop (k + 1)).map ptOne).flatten ++ l))) := by
        have := hZ
        rw [flat_drop ptOne P k hlt, List.append_assoc] at this
        exact this
      have HZL := hid hZ.1.1.lt
      have hxw := hZ.lt
      have hww := hZ.below.size
      clear HR hZ hri hid0
      have hrb := rightB_iff.2 HRI.out
      have HRB := hid hrb
      have HRP := hid (readPart_any HR0.out HRI.out)
      rw [show (wPt J P).parts[k].id = (k : Int) + 1 from HID.out] at HRP
      clear hrb
      generalize hPk : P[k] = p at *
      have hw2 : IntKind.i64.wrap ((k : Int) + 1) = (k : Int) + 1 := IntWalk.i64_in _ ⟨by omega, by omega⟩
      clear hPk
      go_wp2_with fail
      refine HRP.out.mono ?_
      rintro e V1 ⟨v, rfl, hpm, hin, ho⟩
      obtain ⟨x1, y1, x2, y2, x3, y3, x4, y4, e, _⟩ := hpm.open
      subst e
      have HLS := hid ho.1
      have HPM := hid hpm
      have HIN := hid hin
      have hBs := ho.2.size
      clear ho hpm hin HRP HR0
      go_upto_region 8 with fail
      have hbA : Below V1.heap.size V1 (V1.alloc (.cells #[.int .i64 p.id, .int .i64 p.leader, .int .i64 p.epoch, .int .i64 p.ver, .slice x1 p.isr.length y1, .slice x2 p.reps.length y2, .slice x3 p.add.length y3, .slice x4 p.rem.length y4, .int .i64 p.min] 54)) := (Below.refl _ _).alloc (Nat.le_refl _) _
      have HLS2 := hid (HLS.out.under hbA)
      have HPM2 := hid (HPM.out.under hbA)
      have HBX := hid (heap_alloc_new V1 (.cells #[.int .i64 p.id, .int .i64 p.leader, .int .i64 p.epoch, .int .i64 p.ver, .slice x1 p.isr.length y1, .slice x2 p.reps.length y2, .slice x3 p.add.length y3, .slice x4 p.rem.length y4, .int .i64 p.min] 54))
      clear hbA HLS HPM
      generalize V1.alloc (.cells #[.int .i64 p.id, .int .i64 p.leader, .int .i64 p.epoch, .int .i64 p.ver, .slice x1 p.isr.length y1, .slice x2 p.reps.length y2, .slice x3 p.add.length y3, .slice x4 p.rem.length y4, .int .i64 p.min] 54) = V at *
      generalize V1.heap.size = y at *
      have g0 := cell_blk HBX.out 0 (.int .i64 p.id) rfl
      have g1 := cell_blk HBX.out 1 (.int .i64 p.leader) rfl
      have g2 := cell_blk HBX.out 2 (.int .i64 p.epoch) rfl
      have g3 := cell_blk HBX.out 3 (.int .i64 p.ver) rfl
      have g4 := cell_blk HBX.out 4 (.slice x1 p.isr.length y1) rfl
      have g5 := cell_blk HBX.out 5 (.slice x2 p.reps.length y2) rfl
      have g6 := cell_blk HBX.out 6 (.slice x3 p.add.length y3) rfl
      have g7 := cell_blk HBX.out 7 (.slice x4 p.rem.length y4) rfl
      have g8 := cell_blk HBX.out 8 (.int .i64 p.min) rfl
      have HRC := hid (right_any HPM2.out)
      rw [HRB.out] at HRC
      go_wp2_with fail
      refine HRC.out.mono ?_
      rintro e N ⟨rfl, hbN⟩
      have HLS3 := hid (HLS2.out.under hbN)
      have HPM3 := hid (HPM2.out.under hbN)
      have HBY := hid ((hbN.block y (Array.getElem?_eq_some_iff.1 HBX.out).1).trans HBX.out)
      clear hbN HLS2 HPM2 HBX HRC g0 g1 g2 g3 g4 g5 g6 g7 g8
      go_upto_region 10 with fail
      obtain ⟨⟨⟨L, b, vt, vp, ve, ps, h1, hz1, hz2, hz3⟩, h2⟩, h3, h4, h5⟩ := HLS3.out
      obtain ⟨op, cp, hvp, _⟩ := row_shape h1.parts
      subst hvp
      have hB0 : ∀ j, Own q b vt (.slice op ps.length cp) ve j ∨ L j → j < wr.heap.size := fun j hj => HZL.out j (hj.elim (hz1 j) (hz2 j))
      have hyo : ¬ Own q b vt (.slice op ps.length cp) ve y := fun ho => by have := hB0 y (.inl ho); omega
      have HOK5 : ImOk { (wPt J (P.take k)) with parts := (wPt J (P.take k)).parts ++ [p] } := by
        show ImOk (wPt J (P.take k ++ [p]))
        rw [← HTK.out]
        exact HNO.out
      have hwr := HZL.out
      have hxl := h3.lt
      have hws := h5.size
      have HZ5 := hid (And.intro hz1 (And.intro hz2 (And.intro h2 (And.intro h3 (And.intro h4 h5)))))
      refine regionP _ h1 wr.heap.size hB0 p x1 x2 x3 x4 y1 y2 y3 y4 HPM3.out HIN.out y HBY.out hyo HOK5 rfl rfl rfl ?_
      intro g c M i1 i2 i3
      simp only [Act.put, List.setIfInBounds_toArray, List.set_cons_zero, List.set_cons_succ]
      have HV3 : Hid (LE w M q x (wPt J (P.take (k + 1))) (((P.drop (k + 1)).map ptOne).flatten ++ l)) := by
        obtain ⟨z1, z2, z4, z5, z6, z7⟩ := HZ5.out
        refine ⟨fun j => Own q b vt (.slice (some ⟨g, 0, none⟩) (ps.length + 1) c) ve j ∨ (L j ∨ (wr.heap.size ≤ j ∧ j < N.heap.size)), ⟨⟨(fun j => L j ∨ (wr.heap.size ≤ j ∧ j < N.heap.size)), b, vt, .slice (some ⟨g, 0, none⟩) (ps.length + 1) c, ve, ps ++ [(.agg #[.int .i64 p.id, .int .i64 p.leader, .int .i64 p.epoch, .int .i64 p.ver, .slice x1 p.isr.length y1, .slice x2 p.reps.length y2, .slice x3 p.add.length y3, .slice x4 p.rem.length y4, .int .i64 p.min], p)], ?_, fun j hj => .inl hj, fun j hj => .inr hj, fun j hj => hj.elim (fun h => i1.lt h) (fun h => (i1.lists j h).1)⟩, fun j hj => ?_⟩, z5.kept (i3.block x z5.lt (fun ho => (z4 x (z1 x ho)).2 rfl)), z6, z7.trans (i3.below z7.size (fun j hj => (z4 j (z1 j hj)).1))⟩
        · have e : wPt J (P.take (k + 1)) = { (wPt J (P.take k)) with parts := (wPt J (P.take k)).parts ++ [p] } := by unfold wPt; rw [HTK.out]
          rw [e]
          exact i1
        · have key : ∀ j, Own q b vt (.slice op ps.length cp) ve j → w.heap.size ≤ j ∧ j ≠ x := fun j h => z4 j (z1 j h)
          rcases hj with (e | e | e | e | e) | e | e
          · exact key j (.inl e)
          · exact key j (.inr (.inl e))
          · exact key j (.inr (.inr (.inl e)))
          · have eg : g = j := own_some e
            subst eg
            rcases i2 with e2 | e2
            · exact key g (.inr (.inr (.inr (.inl e2))))
            · omega
          · exact key j (.inr (.inr (.inr (.inr e))))
          · exact z4 j (z2 j e)
          · omega
      clear i1 i2 i3 HZ5 h1 h2 h3 h4 h5 hz1 hz2 hz3 HLS3 HPM3 HBY HIN
      go_wp2_with fail
      go_roundg (P.length - (k + 1))
      case measure => omega
      case rel => exact ⟨k + 1, by omega, Nat.le_refl _, by go_num, HV3.out⟩
    · have hlt' : ¬ (k : Int) < (P.length : Int) := by omega
      obtain rfl : k = P.length := by omega
      have HE : Hid (LE w wr q x (wPt J P) l) := by
        have := HR.out
        rw [List.take_length, List.drop_length] at this
        exact this
      clear HR
      go_wp2_with fail
      go_ret
      exact ⟨rfl, HE.out⟩
end Go.Proofs.YtcffomhcmilcpaaGreat

