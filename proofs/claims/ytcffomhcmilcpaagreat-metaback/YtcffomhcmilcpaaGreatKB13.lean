/- MetaBack: the walk. -/
import Derived.Test.YtcffomhcmilcpaaGreatKB12
import Derived.Test.YtcffomhcmilcpaaGreatK29
import Derived.Test.YtcffomhcmilcpaaGreatK30
namespace Go.Proofs.YtcffomhcmilcpaaGreat
open Go.RowKit Go.Maps
set_option maxRecDepth 100000
set_option linter.unusedSimpArgs false
set_option linter.unusedVariables false

/-- One image behind some records. -/
def BI (w U : World) (q : Nat) (m : Nat) : Prop := ∃ I, IS w U q I (fun _ => False) ∧ TN I ∧ I.applied = (m : Int)
/-- Two that are the same. -/
def BT (w U : World) (q1 q2 : Nat) (m : Nat) : Prop := ∃ I, Two w U q1 q2 I I (fun _ => False) ∧ I.applied ≤ (m : Int)
theorem BI.put {w U : World} {q m : Nat} (h : BI w U q m) (hm : m < 1000) {v : Value} {r : Rc} (hr : RecM U v r) (hl : InR (fun k => k < w.heap.size ∨ False) v r) :
    Calls Tryz.prog 12 #[.pointer (some ⟨q, 0, none⟩), v] U fun e w' => (∃ a b, e = .returned (.tuple #[.int .i64 a, .int .i64 b])) ∧ BI w w' q (m + 1) := by
  obtain ⟨I, h1, h2, h3⟩ := h
  refine (h1.put (noX U) (by omega) hr hl (J := (applyI I r).1) (n := (applyI I r).2.1) (m := (applyI I r).2.2) rfl).mono ?_
  rintro e w' ⟨rfl, ho⟩
  exact ⟨⟨_, _, rfl⟩, _, ho.1, tn_apply h2 r, by rw [applied_apply, h3]; push_cast; rfl⟩
/-- A record of a script, at any world behind. -/
theorem Script.at {w : World} {so : Option Addr} {cap : Nat} {ops : List Rc} (hat : ops ≠ [] → ∃ b off, so = some ⟨b, off, none⟩ ∧ ∀ i (hi : i < ops.length), RecC w b (off + i * 8) ops[i]) (m : Nat) (hm : m < ops.length) :
    ∃ b off la lc, so = some ⟨b, off, none⟩ ∧ (∀ U, Below w.heap.size w U → U.cell? ⟨b, off + m * 8, none⟩ = some (.int .i64 ops[m].kind) ∧ U.cell? ⟨b, off + m * 8 + 1, none⟩ = some (.int .i64 ops[m].a) ∧ U.cell? ⟨b, off + m * 8 + 2, none⟩ = some (.int .i64 ops[m].b) ∧ U.cell? ⟨b, off + m * 8 + 3, none⟩ = some (.int .i64 ops[m].c) ∧ U.cell? ⟨b, off + m * 8 + 4, none⟩ = some (.int .i64 ops[m].d) ∧ U.cell? ⟨b, off + m * 8 + 5, none⟩ = some (.string ops[m].name) ∧ U.cell? ⟨b, off + m * 8 + 6, none⟩ = some (.string ops[m].text) ∧ U.cell? ⟨b, off + m * 8 + 7, none⟩ = some (.slice la ops[m].list.length lc)) ∧
      (∀ U, Below w.heap.size w U → RecM U (.agg #[.int .i64 ops[m].kind, .int .i64 ops[m].a, .int .i64 ops[m].b, .int .i64 ops[m].c, .int .i64 ops[m].d, .string ops[m].name, .string ops[m].text, .slice la ops[m].list.length lc]) ops[m]) ∧
      InR (fun k => k < w.heap.size) (.agg #[.int .i64 ops[m].kind, .int .i64 ops[m].a, .int .i64 ops[m].b, .int .i64 ops[m].c, .int .i64 ops[m].d, .string ops[m].name, .string ops[m].text, .slice la ops[m].list.length lc]) ops[m] := by
  obtain ⟨b, off, e, hc⟩ := hat (by intro e; rw [e] at hm; simp at hm)
  obtain ⟨la, lc, s0, s1, s2, s3, s4, s5, s6, s7, s8, s9, s10⟩ := hc m hm
  refine ⟨b, off, la, lc, e, fun U hU => ⟨kept_cell hU s0, kept_cell hU s1, kept_cell hU s2, kept_cell hU s3, kept_cell hU s4, kept_cell hU s5, kept_cell hU s6, kept_cell hU s7⟩, fun U hU => ⟨⟨_, rfl, s8.under hU⟩, s9, s10⟩, ?_⟩
  intro a1 a2 a3 a4 a5 a6 a7 a8 e
  have e8 : a8 = .slice la ops[m].list.length lc := by
    have := congrArg (fun v => match v with | .agg cs => cs[7]? | _ => none) e
    simpa using this.symm
  rw [e8]
  exact s8.old
set_option maxHeartbeats 20000000 in
theorem back_walk {w : World} {wv wu : Value} {ops bops : List Rc} (h : Script w wv ops) (h' : Script w wu bops) : Calls Tryz.prog 6 #[wv, wu] w fun e w' => e = .returned (.bool true) ∧ Below w.heap.size w w' := by
  obtain ⟨⟨so, cap, rfl, hat⟩, hlen⟩ := h
  obtain ⟨⟨so2, cap2, rfl, hat2⟩, hlen'⟩ := h'
  have HA := hid hat
  have HA2 := hid hat2
  have HSH := hid (shown_any w)
  have HNW := hid (fun V => new_any V)
  have hlen2 : ops.length ≤ 9223372036854775807 := by unfold maxLen at hlen; omega
  have hlen3 : bops.length ≤ 9223372036854775807 := by unfold maxLen at hlen'; omega
  clear hat hat2 hlen hlen'
  go_enter Tryz.func6, Tryz.ntmps6
  go_wp2_with fail
  refine HSH.out.mono ?_
  rintro e W0 ⟨rfl, hb0⟩
  have HB0 := hid hb0
  clear hb0 HSH
  go_wp2_with fail
  refine (HNW.out W0).mono ?_
  rintro e W1 ⟨rfl, hi1, hb1⟩
  have HP0 : Hid (BI w W1 (W0.heap.size + 1) 0) := ⟨_, IS.new w HB0.out (fun k hk => by cases hk) hi1 hb1, TN.new, rfl⟩
  clear hi1 hb1 HB0 HNW
  generalize W0.heap.size + 1 = q at *
  go_upto_block 0 with fail
  go_cut [] from 23 to 38 (fun wx => Hid (∃ m, m ≤ 60 ∧ BI w wx q m))
  case first =>
    go_wp2_with fail
    go_loopg [7] 60 (fun kx s7 wr => ∃ (m : Nat), m ≤ 60 ∧ 60 - m ≤ kx ∧ s7 = .int .i64 (m : Int) ∧ Hid (BI w wr q m))
    case atStart => exact ⟨0, by omega, by omega, rfl, HP0.out⟩
    case round =>
      obtain ⟨m, hm, hmx, rfl, HM⟩ := hrel
      clear HP0
      by_cases hl2 : m < ops.length ∧ m < 60
      · obtain ⟨g1, g2⟩ := hl2
        have g1' : (m : Int) < (ops.length : Int) := by omega
        have g2' : (m : Int) < 60 := by omega
        obtain ⟨b, off, la, lc, rfl, hce, hrm, hir⟩ := Script.at HA.out (cap := cap) m g1
        have hbw : Below w.heap.size w wr := by obtain ⟨I, hI, _⟩ := HM.out; exact hI.below
        obtain ⟨e0, e1, e2, e3, e4, e5, e6, e7⟩ := hce wr hbw
        have HC := hid (HM.out.put (by omega) (hrm wr hbw) (fun a1 a2 a3 a4 a5 a6 a7 a8 e => (hir a1 a2 a3 a4 a5 a6 a7 a8 e).most (fun k hk => .inl hk)))
        clear hce hrm hir hbw HM
        generalize ops[m] = R at *
        go_wp2_with fail
        refine HC.out.mono ?_
        rintro e w2 ⟨⟨x2, y2, rfl⟩, ho⟩
        have HS4 := hid ho
        clear ho HC e0 e1 e2 e3 e4 e5 e6 e7
        go_wp2_with fail
        go_roundg (60 - (m + 1))
        case measure => omega
        case rel => exact ⟨m + 1, by omega, Nat.le_refl _, by go_num, HS4.out⟩
      · by_cases h1 : m < ops.length
        · have h2 : ¬ (m : Int) < 60 := fun hh => hl2 ⟨h1, by omega⟩
          have h1' : (m : Int) < (ops.length : Int) := by omega
          clear hl2
          go_wp2_with fail
          go_meet
          case rel => exact ⟨m, hm, HM.out⟩
        · have h1' : ¬ (m : Int) < (ops.length : Int) := by omega
          clear hl2
          go_wp2_with fail
          go_meet
          case rel => exact ⟨m, hm, HM.out⟩
  case rest =>
    obtain ⟨m0, hm0, I, hIS, hTN, hAP⟩ := hcut.out
    have HIS := hid hIS
    have HLD : Hid (LdOk I) := by obtain ⟨⟨Z, hz, _⟩, _⟩ := hIS; exact ⟨hz.ok, hTN.1, hTN.2⟩
    have HAP : Hid (I.applied ≤ 100) := by show _ ≤ _; omega
    clear hcut HP0 HA hIS hTN hAP hm0
    go_wp2_with fail
    refine HIS.out.keep.mono ?_
    rintro e W3 ⟨rfl, hb3, hi3⟩
    have HI3 := hid hi3
    clear hb3 hi3 HIS
    go_wp2_with fail
    refine (load_good HLD.out).mono ?_
    rintro e W4 ⟨q2, rfl, Z2, hI4, hZ4, hb4⟩
    have HT4 : Hid (BT w W4 q q2 100) := by
      obtain ⟨⟨Z, z1, z2⟩, z3, z4⟩ := HI3.out
      refine ⟨I, ⟨Z, Z2, z1.under hb4, hI4, fun k hk => ⟨(z2 k hk).1, id, fun h => ?_⟩, fun k hk => ⟨?_, id⟩, z3.trans (hb4.mono z3.size), z4, z4⟩, HAP.out⟩
      · have h8 := z1.lt k hk
        have := hZ4 k h
        omega
      · have h8 := z3.size
        have := hZ4 k hk
        omega
    clear hI4 hZ4 hb4 HI3 HLD HAP
    generalize W.strOf (keepI I) = ks0 at *
    go_wp2_with fail
    go_loopg [10] 40 (fun kx s10 wr => ∃ (m : Nat), m ≤ 40 ∧ 40 - m ≤ kx ∧ s10 = .int .i64 (m : Int) ∧ Hid (BT w wr q q2 (100 + m)))
    case atStart => exact ⟨0, by omega, by omega, rfl, HT4.out⟩
    case round =>
      obtain ⟨m, hm, hmx, rfl, HM⟩ := hrel
      clear HT4
      obtain ⟨I, hTW, hAP⟩ := HM.out
      have HTW := hid hTW
      by_cases hl2 : m < bops.length ∧ m < 40
      · obtain ⟨g1, g2⟩ := hl2
        have g1' : (m : Int) < (bops.length : Int) := by omega
        have g2' : (m : Int) < 40 := by omega
        obtain ⟨b, off, la, lc, rfl, hce, hrm, hir⟩ := Script.at HA2.out (cap := cap2) m g1
        have HCE := hid hce
        have HRM := hid hrm
        have HIR := hid hir
        obtain ⟨e0, e1, e2, e3, e4, e5, e6, e7⟩ := hce wr hTW.below
        have hAL : I.applied < 1000000000000 := by omega
        have HC1 := hid (hTW.put (noX wr) hAL (hrm wr hTW.below) hir)
        obtain ⟨J, hJ⟩ : ∃ J, J = applyI I bops[m] := ⟨_, rfl⟩
        have HAJ : Hid (J.1.applied ≤ ((100 + (m + 1) : Nat) : Int)) := by show _ ≤ _; rw [hJ, applied_apply]; push_cast; omega
        rw [← hJ] at HC1
        have HC2 : Hid (∀ U, Two w U q2 q I J.1 (fun _ => False) → Calls Tryz.prog 12 #[.pointer (some ⟨q2, 0, none⟩), .agg #[.int .i64 bops[m].kind, .int .i64 bops[m].a, .int .i64 bops[m].b, .int .i64 bops[m].c, .int .i64 bops[m].d, .string bops[m].name, .string bops[m].text, .slice la bops[m].list.length lc]] U fun e w' => e = .returned (.tuple #[.int .i64 J.2.1, .int .i64 J.2.2]) ∧ TwoOut w U w' q2 q J.1 J.1 (fun _ => False)) := fun U hU => by
          rw [hJ] at hU ⊢
          exact hU.put (noX U) hAL (HRM.out U hU.below) HIR.out
        clear hJ hce hrm hir hTW hAP HM HTW
        generalize bops[m] = R at *
        obtain ⟨J1, rA, rE⟩ := J
        simp only at HC1 HC2 HAJ
        go_wp2_with fail
        refine HC1.out.mono ?_
        rintro e U2 ⟨rfl, ho⟩
        have HT2 := hid ho.1.swap
        clear ho HC1 e0 e1 e2 e3 e4 e5 e6 e7
        obtain ⟨e0, e1, e2, e3, e4, e5, e6, e7⟩ := HCE.out U2 HT2.out.below
        have HC3 := hid (HC2.out U2 HT2.out)
        clear HC2
        go_wp2_with fail
        refine HC3.out.mono ?_
        rintro e U3 ⟨rfl, ho⟩
        have HT3 := hid ho.1.swap
        clear ho HC3 HT2 e0 e1 e2 e3 e4 e5 e6 e7
        generalize hKS : W.strOf (keepI J1) = ks at *
        have HK1 : Hid (∀ U, Two w U q q2 J1 J1 (fun _ => False) → Calls Tryz.prog 17 #[.pointer (some ⟨q, 0, none⟩)] U fun e w' => e = .returned (.string ks) ∧ Below U.heap.size U w') := fun U hU => by rw [← hKS]; exact hU.keep
        have HK2 : Hid (∀ U, Two w U q q2 J1 J1 (fun _ => False) → Calls Tryz.prog 17 #[.pointer (some ⟨q2, 0, none⟩)] U fun e w' => e = .returned (.string ks) ∧ Below U.heap.size U w') := fun U hU => by rw [← hKS]; exact hU.swap.keep
        clear hKS
        go_wp2_with fail
        refine (HK1.out U3 HT3.out).mono ?_
        rintro e U5 ⟨rfl, hb5⟩
        have HT5 := hid (HT3.out.under hb5)
        clear hb5 HT3 HK1
        go_wp2_with fail
        refine (HK2.out U5 HT5.out).mono ?_
        rintro e U6 ⟨rfl, hb6⟩
        have HT6 := hid (HT5.out.under hb6)
        clear hb6 HT5 HK2
        go_wp2_with fail
        go_roundg (40 - (m + 1))
        case measure => omega
        case rel => exact ⟨m + 1, by omega, Nat.le_refl _, by go_num, ⟨J1, HT6.out, HAJ.out⟩⟩
      · have HA1 : Hid (Calls Tryz.prog 27 #[.pointer (some ⟨q, 0, none⟩)] wr fun e w' => e = .returned (.int .i64 I.applied) ∧ wr = w') := by
          obtain ⟨Z1, Z2, t1, t2, _⟩ := HTW.out
          exact applied_any t1
        have HA3 : Hid (Calls Tryz.prog 27 #[.pointer (some ⟨q2, 0, none⟩)] wr fun e w' => e = .returned (.int .i64 I.applied) ∧ wr = w') := by
          obtain ⟨Z1, Z2, t1, t2, _⟩ := HTW.out
          exact applied_any t2
        have HB := hid hTW.below
        clear hTW HM HTW
        by_cases h1 : m < bops.length
        · have h2 : ¬ (m : Int) < 40 := fun hh => hl2 ⟨h1, by omega⟩
          have h1' : (m : Int) < (bops.length : Int) := by omega
          clear hl2
          go_wp2_with fail
          refine HA1.out.mono ?_
          rintro e w1 ⟨rfl, rfl⟩
          go_wp2_with fail
          refine HA3.out.mono ?_
          rintro e w1 ⟨rfl, rfl⟩
          go_wp2_with fail
          go_ret
          exact ⟨by simp, HB.out⟩
        · have h1' : ¬ (m : Int) < (bops.length : Int) := by omega
          clear hl2
          go_wp2_with fail
          refine HA1.out.mono ?_
          rintro e w1 ⟨rfl, rfl⟩
          go_wp2_with fail
          refine HA3.out.mono ?_
          rintro e w1 ⟨rfl, rfl⟩
          go_wp2_with fail
          go_ret
          exact ⟨by simp, HB.out⟩
end Go.Proofs.YtcffomhcmilcpaaGreat

