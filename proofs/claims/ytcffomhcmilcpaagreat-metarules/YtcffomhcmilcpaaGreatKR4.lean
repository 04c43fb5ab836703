/- MetaRules: the walk. -/
import Derived.Test.YtcffomhcmilcpaaGreatKR3
import Derived.Test.YtcffomhcmilcpaaGreatL5
namespace Go.Proofs.YtcffomhcmilcpaaGreat
open Go.RowKit Go.Maps
set_option maxRecDepth 100000
set_option linter.unusedSimpArgs false
set_option linter.unusedVariables false

set_option maxHeartbeats 20000000 in
theorem rules_walk {w : World} {wv : Value} {ops : List Rc} (h : Script w wv ops) : Calls Tryz.prog 5 #[wv] w fun e w' => e = .returned (.bool true) ∧ Below w.heap.size w w' := by
  obtain ⟨⟨so, cap, rfl, hat⟩, hlen⟩ := h
  have HA := hid hat
  have HSH := hid (shown_any w)
  have HNW := hid (fun V => new_any V)
  have hlen2 : ops.length ≤ 9223372036854775807 := by unfold maxLen at hlen; omega
  clear hat hlen
  go_enter Tryz.func5, Tryz.ntmps5
  go_wp2_with fail
  refine HSH.out.mono ?_
  rintro e W0 ⟨rfl, hb0⟩
  have HB0 := hid hb0
  clear hb0 HSH
  go_wp2_with fail
  refine (HNW.out W0).mono ?_
  rintro e W1 ⟨rfl, hi1, hb1⟩
  have HI1 := hid (And.intro hi1 hb1)
  clear hi1 hb1
  go_wp2_with fail
  refine (HNW.out W1).mono ?_
  rintro e W2 ⟨rfl, hi2, hb2⟩
  have HP0 : Hid (RI w W2 (W0.heap.size + 1) (W1.heap.size + 1) 0) := ⟨_, Two.new w HB0.out HI1.out.1 HI1.out.2 hi2 hb2, LUp.new, rfl⟩
  clear hi2 hb2 HB0 HNW HI1
  generalize W0.heap.size + 1 = q1 at *
  generalize W1.heap.size + 1 = q2 at *
  go_wp2_with fail
  go_loopg [6] 120 (fun kx s6 wr => ∃ (m : Nat), m ≤ 120 ∧ 120 - m ≤ kx ∧ s6 = .int .i64 (m : Int) ∧ Hid (RI w wr q1 q2 m))
  case atStart => exact ⟨0, by omega, by omega, rfl, HP0.out⟩
  case round =>
    obtain ⟨m, hm, hmx, rfl, HM⟩ := hrel
    clear HP0
    by_cases hl2 : m < ops.length ∧ m < 120
    · obtain ⟨g1, g2⟩ := hl2
      have g1' : (m : Int) < (ops.length : Int) := by omega
      have g2' : (m : Int) < 120 := by omega
      obtain ⟨b, off, rfl, hcell⟩ := HA.out (by intro e; rw [e] at g1; simp at g1)
      have HRC := hid (hcell m g1)
      clear hcell
      generalize ops[m] = R at *
      obtain ⟨I, hTW, hLU, hAP⟩ := HM.out
      have HTW := hid hTW
      have HLU := hid hLU
      have HGO := hid (good_apply hTW.ok hLU (by omega) R)
      have HAP : Hid ((applyI I R).1.applied = ((m + 1 : Nat) : Int)) := by show _ = _; rw [applied_apply, hAP]; push_cast; rfl
      have HAL : Hid (I.applied < 1000000000000) := by show _ < _; omega
      have HOI := hid hTW.ok
      clear HM hTW hLU hAP
      go_wp2_with fail
      refine HTW.out.parts.mono ?_
      rintro e U1 ⟨⟨v1, rfl, hp1⟩, hb1, ht1⟩
      obtain ⟨o1, c1, rfl⟩ := hp1.shape
      have HP1 := hid hp1
      have HT1 : Hid (Two w U1 q1 q2 I I (fun k => wr.heap.size ≤ k ∧ k < U1.heap.size)) := by
        have h2 := HTW.out.more (Y := fun k => wr.heap.size ≤ k ∧ k < U1.heap.size) (fun k hk => .inr hk.1)
        exact h2.under hb1
      clear hp1 hb1 ht1 HTW
      -- the record at this world
      obtain ⟨la, lc, e0, e1, e2, e3, e4, e5, e6, e7, hil, hok, hnm⟩ := HRC.out.under HT1.out.below
      have HIN : Hid (In (fun k => k < w.heap.size) (.slice la R.list.length lc) R.list) := by
        obtain ⟨la', lc', r1, r2, r3⟩ := HRC.out.rec HT1.out.below
        rw [e7] at r2
        simp only [Option.some.injEq, Value.slice.injEq] at r2
        obtain ⟨rfl, _, rfl⟩ := r2
        exact r3
      have HRM : Hid (∀ U, Below w.heap.size w U → RecM U (.agg #[.int .i64 R.kind, .int .i64 R.a, .int .i64 R.b, .int .i64 R.c, .int .i64 R.d, .string R.name, .string R.text, .slice la R.list.length lc]) R) := fun U hU => by
        obtain ⟨la', lc', r1, r2, r3⟩ := HRC.out.rec hU
        have e8 : w.cell? ⟨b, off + m * 8 + 7, none⟩ = some (.slice la R.list.length lc) := by
          obtain ⟨la2, lc2, _, _, _, _, _, _, _, s7, _⟩ := HRC.out
          have s7' := kept_cell HT1.out.below s7
          rw [e7] at s7'
          simp only [Option.some.injEq, Value.slice.injEq] at s7'
          obtain ⟨rfl, _, rfl⟩ := s7'
          exact s7
        have e9 := kept_cell hU e8
        rw [e9] at r2
        simp only [Option.some.injEq, Value.slice.injEq] at r2
        obtain ⟨rfl, _, rfl⟩ := r2
        exact r1
      have HIR : Hid (InR (fun k => k < w.heap.size) (.agg #[.int .i64 R.kind, .int .i64 R.a, .int .i64 R.b, .int .i64 R.c, .int .i64 R.d, .string R.name, .string R.text, .slice la R.list.length lc]) R) := by
        intro a1 a2 a3 a4 a5 a6 a7 a8 e
        have e8 : a8 = .slice la R.list.length lc := by
          have := congrArg (fun v => match v with | .agg cs => cs[7]? | _ => none) e
          simpa using this.symm
        rw [e8]
        exact HIN.out
      have HCE : Hid (∀ U, Below w.heap.size w U → U.cell? ⟨b, off + m * 8, none⟩ = some (.int .i64 R.kind) ∧ U.cell? ⟨b, off + m * 8 + 1, none⟩ = some (.int .i64 R.a) ∧ U.cell? ⟨b, off + m * 8 + 2, none⟩ = some (.int .i64 R.b) ∧ U.cell? ⟨b, off + m * 8 + 3, none⟩ = some (.int .i64 R.c) ∧ U.cell? ⟨b, off + m * 8 + 4, none⟩ = some (.int .i64 R.d) ∧ U.cell? ⟨b, off + m * 8 + 5, none⟩ = some (.string R.name) ∧ U.cell? ⟨b, off + m * 8 + 6, none⟩ = some (.string R.text) ∧ U.cell? ⟨b, off + m * 8 + 7, none⟩ = some (.slice la R.list.length lc)) := fun U hU => by
        obtain ⟨la2, lc2, s0, s1, s2, s3, s4, s5, s6, s7, _⟩ := HRC.out
        have s7' := kept_cell HT1.out.below s7
        rw [e7] at s7'
        simp only [Option.some.injEq, Value.slice.injEq] at s7'
        obtain ⟨rfl, _, rfl⟩ := s7'
        exact ⟨kept_cell hU s0, kept_cell hU s1, kept_cell hU s2, kept_cell hU s3, kept_cell hU s4, kept_cell hU s5, kept_cell hU s6, kept_cell hU s7⟩
      have HKI : Hid (I64 R.kind) := hok.kind
      obtain ⟨J, hJ⟩ : ∃ J, J = applyI I R := ⟨_, rfl⟩
      have HC1 := hid (HT1.out.put (fun k hk => hk.2) HAL.out (HRM.out U1 HT1.out.below) HIR.out)
      rw [← hJ] at HC1 HGO HAP
      have HC2 : Hid (∀ U, Two w U q2 q1 I J.1 (fun k => wr.heap.size ≤ k ∧ k < U1.heap.size) → U1.heap.size ≤ U.heap.size → Calls Tryz.prog 12 #[.pointer (some ⟨q2, 0, none⟩), .agg #[.int .i64 R.kind, .int .i64 R.a, .int .i64 R.b, .int .i64 R.c, .int .i64 R.d, .string R.name, .string R.text, .slice la R.list.length lc]] U fun e w' => e = .returned (.tuple #[.int .i64 J.2.1, .int .i64 J.2.2]) ∧ TwoOut w U w' q2 q1 J.1 J.1 (fun k => wr.heap.size ≤ k ∧ k < U1.heap.size)) := fun U hU hs => by
        rw [hJ] at hU ⊢
        exact hU.put (fun k hk => by omega) HAL.out (HRM.out U hU.below) HIR.out
      clear hJ hok hnm hil HIN HRM HIR HAL HRC
      obtain ⟨J1, rA, rE⟩ := J
      simp only at HC1 HC2 HGO HAP
      go_wp2_with fail
      refine HC1.out.mono ?_
      rintro e U2 ⟨rfl, ho⟩
      have HT2 := hid ho.1.swap
      have HP2 := hid (HP1.out.kept (fun k h1 h2 => ho.2.1 k ⟨h1, h2⟩) ho.2.2)
      have HS2 := hid ho.2
      clear ho HC1 HT1 e0 e1 e2 e3 e4 e5 e6 e7
      obtain ⟨e0, e1, e2, e3, e4, e5, e6, e7⟩ := HCE.out U2 HT2.out.below
      have HC3 := hid (HC2.out U2 HT2.out HS2.out.2)
      clear HC2
      go_wp2_with fail
      refine HC3.out.mono ?_
      rintro e U3 ⟨rfl, ho⟩
      have HT3 : Hid (Two w U3 q1 q2 J1 J1 (fun _ => False)) := ho.1.swap.more (fun k hk => hk.elim)
      have HP3 : Hid (PartsAt wr.heap.size U3 (.slice o1 I.parts.length c1) I.parts) := HP1.out.kept (fun k h1 h2 => (ho.2.1 k ⟨h1, h2⟩).trans (HS2.out.1 k ⟨h1, h2⟩)) (Nat.le_trans HS2.out.2 ho.2.2)
      clear ho HC3 HT2 HP2 HS2 HP1 e0 e1 e2 e3 e4 e5 e6 e7
      go_wp2_with fail
      refine HT3.out.parts.mono ?_
      rintro e U4 ⟨⟨v4, rfl, hp4⟩, hb4, ht4⟩
      obtain ⟨o4, c4, rfl⟩ := hp4.shape
      have HN4 := hid hp4
      have HP4 := hid (HP3.out.under hb4)
      have HT4 := hid ht4
      clear hp4 hb4 ht4 HT3 HP3
      have hge : ¬ (J1.parts.length < I.parts.length) := by have := HGO.out.2.1; omega
      have hge' : ¬ ((J1.parts.length : Int) < (I.parts.length : Int)) := by omega
      generalize hKS : W.strOf (keepI J1) = ks at *
      have HK1 : Hid (∀ U, Two w U q1 q2 J1 J1 (fun _ => False) → Calls Tryz.prog 17 #[.pointer (some ⟨q1, 0, none⟩)] U fun e w' => e = .returned (.string ks) ∧ Below U.heap.size U w') := fun U hU => by rw [← hKS]; exact hU.keep
      have HK2 : Hid (∀ U, Two w U q1 q2 J1 J1 (fun _ => False) → Calls Tryz.prog 17 #[.pointer (some ⟨q2, 0, none⟩)] U fun e w' => e = .returned (.string ks) ∧ Below U.heap.size U w') := fun U hU => by rw [← hKS]; exact hU.swap.keep
      clear hKS
      go_wp2_with fail
      refine (HK1.out U4 HT4.out).mono ?_
      rintro e U5 ⟨rfl, hb5⟩
      have HT5 := hid (HT4.out.under hb5)
      have HN5 := hid (HN4.out.under hb5)
      have HP5 := hid (HP4.out.under hb5)
      clear hb5 HT4 HN4 HP4 HK1
      go_wp2_with fail
      refine (HK2.out U5 HT5.out).mono ?_
      rintro e U6 ⟨rfl, hb6⟩
      have HT6 := hid (HT5.out.under hb6)
      have HN6 := hid (HN5.out.under hb6)
      have HP6 := hid (HP5.out.under hb6)
      clear hb6 HT5 HN5 HP5 HK2
      go_wp2_with fail
      refine HT6.out.ups.mono ?_
      rintro e U7 ⟨vu, rfl, hu7, hb7⟩
      have HT7 := hid (HT6.out.under hb7)
      have HN7 := hid (HN6.out.under hb7)
      have HP7 := hid (HP6.out.under hb7)
      have HU7 := hid hu7
      obtain ⟨au, cu, rfl, _⟩ := hu7.shape
      have HLJ := hid HGO.out.1
      have HRS := hid HGO.out.2.2
      have HOJ := hid HT7.out.ok
      clear hb7 HT6 HN6 HP6 hu7 HGO
      have hjf : J1.parts.length ≤ 16 := HOJ.out.few
      have hif : I.parts.length ≤ 16 := by omega
      go_wp2_with fail
      go_loopg [14] J1.parts.length (fun kx s14 wr => ∃ k : Nat, k ≤ J1.parts.length ∧ J1.parts.length - k ≤ kx ∧ s14 = .int .i64 (k : Int) ∧ Hid (Below U7.heap.size U7 wr))
      case atStart => exact ⟨0, Nat.zero_le _, by omega, rfl, Below.refl _ _⟩
      case round =>
        obtain ⟨i, hi, hix, rfl, HBW⟩ := hrel
        by_cases hil : i < J1.parts.length
        · have hil' : (i : Int) < (J1.parts.length : Int) := by omega
          obtain ⟨gl, cl', x, ev, hpm, hgl, hxc⟩ := HN7.out.get i hil
          obtain ⟨rfl, _, rfl⟩ := Value.slice.inj ev
          have hmem : J1.parts[i] ∈ J1.parts := List.getElem_mem hil
          have hri := right_mem HOJ.out hmem
          have hlu := HLJ.out.up _ hmem
          have hpm5 := hpm.under HBW.out
          obtain ⟨a1, c1, a2, c2, a3, c3, a4, c4, rfl, j1, j2, j3, j4, k1, k2, k3, k4, k5⟩ := hpm5.open
          have hxc5 := fun t ht u hu => kept_cell HBW.out (hxc t ht u hu)
          have r1 := hxc5 1 (by decide) _ rfl
          have r4 := hxc5 4 (by decide) _ rfl
          have hle := hri.lead
          have hso := hri.some
          clear hxc hpm hpm5 j2 j3 j4 k1 k3 k4 k5 hxc5 hmem hri
          generalize J1.parts[i] = P at *
          obtain ⟨pid, pld, pep, pvr, isr, reps, add, rem, mn⟩ := P
          simp only at r1 r4 hle hso hlu j1 k2
          have hnz : 0 < isr.length := List.length_pos_iff.2 hso
          have hnz' : ((isr.length : Int) == 0) = false := by simp; omega
          have hnz2 : (isr.length == 0) = false := by simp; omega
          have HC1 : Hid (∀ U, Below wr.heap.size wr U → Calls Tryz.prog 25 #[.slice au (upL J1.brs).length cu, .int .i64 pld] U fun e w' => e = .returned (.bool (hasB (upL J1.brs) pld)) ∧ w' = U) := fun U hU => by
            refine (in_any ((HU7.out.under HBW.out).under hU) pld k2).mono ?_
            rintro e w' ⟨rfl, rfl⟩
            exact ⟨rfl, rfl⟩
          have HC2 : Hid (∀ U, Below wr.heap.size wr U → Calls Tryz.prog 25 #[.slice a1 isr.length c1, .int .i64 pld] U fun e w' => e = .returned (.bool (hasB isr pld)) ∧ w' = U) := fun U hU => by
            refine (in_any (j1.under hU) pld k2).mono ?_
            rintro e w' ⟨rfl, rfl⟩
            exact ⟨rfl, rfl⟩
          have HCA : Hid (pld = 0 ∨ (hasB (upL J1.brs) pld = true ∧ hasB isr pld = true)) := by
            rcases hlu with h | h
            · exact .inl h
            · rcases hle with h2 | h2
              · exact .inl h2
              · exact .inr ⟨hasB_iff.2 h, hasB_iff.2 h2⟩
          generalize hasB (upL J1.brs) pld = g1 at *
          generalize hasB isr pld = g2 at *
          clear hle hlu hso j1 hnz
          go_wp2_with fail
          refine (HC1.out wr (Below.refl _ _)).mono ?_
          rintro e w1 ⟨rfl, rfl⟩
          clear HC1
          have hi0 : (0 : Int) ≤ (i : Int) := by omega
          go_upto_region 20 with fail
          go_cut [16] from 101 to 111 (fun s16 U => s16 = .bool g2 ∧ Hid (Below w1.heap.size w1 U))
          case first =>
            go_quiet ((go_at_call 25; refine Calls.quiet_of_same (HC2.out _ ?_); exact below_drewN (Below.refl _ _) _))
            all_goals
              go_wp2_with fail
              go_meet
              case rel => exact ⟨rfl, below_drewN (Below.refl _ _) _⟩
          case rest =>
            obtain ⟨rfl, HU1⟩ := hcut
            have r1u := kept_cell HU1.out r1
            have r4u := kept_cell HU1.out r4
            have HBZ : Hid (Below U7.heap.size U7 wc) := HBW.out.trans (HU1.out.mono HBW.out.size)
            clear HC2 HU1 r1 r4 HBW
            rcases HCA.out with h | ⟨h1, h2⟩
            · subst h
              go_wp2_with fail
              go_roundg (J1.parts.length - (i + 1))
              case measure => omega
              case rel => exact ⟨i + 1, by omega, Nat.le_refl _, by go_num, HBZ.out⟩
            · subst h1 h2
              by_cases hz : pld = 0
              · subst hz
                go_wp2_with fail
                go_roundg (J1.parts.length - (i + 1))
                case measure => omega
                case rel => exact ⟨i + 1, by omega, Nat.le_refl _, by go_num, HBZ.out⟩
              · have hz' : (pld == 0) = false := by simp [hz]
                go_wp2_with fail
                go_roundg (J1.parts.length - (i + 1))
                case measure => omega
                case rel => exact ⟨i + 1, by omega, Nat.le_refl _, by go_num, HBZ.out⟩
        · have hil' : ¬ (i : Int) < (J1.parts.length : Int) := by omega
          clear hi hix hil
          have HT8 := hid (HT7.out.under HBW.out)
          have HN8 := hid (HN7.out.under HBW.out)
          have HP8 := hid (HP7.out.under HBW.out)
          clear HT7 HN7 HP7 HBW HU7
          generalize wr = V at *
          go_wp2_with fail
          go_loopg [17] I.parts.length (fun kx s17 wr => ∃ k : Nat, k ≤ I.parts.length ∧ I.parts.length - k ≤ kx ∧ s17 = .int .i64 (k : Int) ∧ Hid (Below V.heap.size V wr))
          case atStart => exact ⟨0, Nat.zero_le _, by omega, rfl, Below.refl _ _⟩
          case round =>
            obtain ⟨i, hi, hix, rfl, HBW⟩ := hrel
            by_cases hil : i < I.parts.length
            · have hil2 : (i : Int) < (I.parts.length : Int) := by omega
              have hjl : i < J1.parts.length := by omega
              have hjl2 : (i : Int) < (J1.parts.length : Int) := by omega
              obtain ⟨gp, cp', xp, ev, hpm, hgp, hxc⟩ := HP8.out.get i hil
              obtain ⟨rfl, _, rfl⟩ := Value.slice.inj ev
              obtain ⟨gq, cq', xq, ev2, hqm, hgq, hyc⟩ := HN8.out.get i hjl
              obtain ⟨rfl, _, rfl⟩ := Value.slice.inj ev2
              have hRI := HRS.out i _ _ (List.getElem?_eq_getElem hil) (List.getElem?_eq_getElem hjl)
              have hri := right_mem HOI.out (List.getElem_mem hil)
              have hpm5 := hpm.under HBW.out
              have hqm5 := hqm.under HBW.out
              have hxc5 := fun t ht u hu => kept_cell HBW.out (hxc t ht u hu)
              have hyc5 := fun t ht u hu => kept_cell HBW.out (hyc t ht u hu)
              obtain ⟨mk0, _⟩ := HCE.out wr (HT8.out.below.trans (HBW.out.mono HT8.out.below.size))
              have hver := hri.ver
              have G26 : Hid (∀ U, Below wr.heap.size wr U → Calls Tryz.prog 26 #[xp, xq, .int .i64 R.kind] U fun e w' => e = .returned (.bool true) ∧ Below U.heap.size U w') := fun U hU => rises_any (hpm5.under hU) (hqm5.under hU) HKI.out hRI ⟨by omega, by omega⟩
              generalize I.parts[i] = PP at *
              generalize J1.parts[i] = QQ at *
              obtain ⟨pid, pld, pep, pvr, isr, reps, add, rem, mn⟩ := PP
              obtain ⟨qid, qld, qep, qvr, jsr, jeps, jdd, jem, nn⟩ := QQ
              obtain ⟨a1, c1, a2, c2, a3, c3, a4, c4, rfl, _⟩ := hpm5.open
              obtain ⟨x1, y1, x2, y2, x3, y3, x4, y4, rfl, _⟩ := hqm5.open
              simp only at hxc5 hyc5 G26
              have k0 := hxc5 0 (by decide) _ rfl
              have k1 := hxc5 1 (by decide) _ rfl
              have k2 := hxc5 2 (by decide) _ rfl
              have k3 := hxc5 3 (by decide) _ rfl
              have k4 := hxc5 4 (by decide) _ rfl
              have k5 := hxc5 5 (by decide) _ rfl
              have k6 := hxc5 6 (by decide) _ rfl
              have k7 := hxc5 7 (by decide) _ rfl
              have k8 := hxc5 8 (by decide) _ rfl
              have z0 := hyc5 0 (by decide) _ rfl
              have z1 := hyc5 1 (by decide) _ rfl
              have z2 := hyc5 2 (by decide) _ rfl
              have z3 := hyc5 3 (by decide) _ rfl
              have z4 := hyc5 4 (by decide) _ rfl
              have z5 := hyc5 5 (by decide) _ rfl
              have z6 := hyc5 6 (by decide) _ rfl
              have z7 := hyc5 7 (by decide) _ rfl
              have z8 := hyc5 8 (by decide) _ rfl
              rw [Nat.add_zero] at k0 z0
              have HBX := hid HBW.out
              clear hxc hyc hpm hqm hpm5 hqm5 hxc5 hyc5 hRI hri hver HBW
              generalize R.kind = rk at *
              go_upto_region 26 with fail
              go_cut [18] from 141 to 154 (fun s18 U => s18 = .bool true ∧ Hid (Below V.heap.size V U))
              case first =>
                go_region_held3 (fun w' => w'.cell? ⟨gp, i * 9, none⟩ = some (.int .i64 pid) ∧ w'.cell? ⟨gp, i * 9 + 1, none⟩ = some (.int .i64 pld) ∧ w'.cell? ⟨gp, i * 9 + 2, none⟩ = some (.int .i64 pep) ∧ w'.cell? ⟨gp, i * 9 + 3, none⟩ = some (.int .i64 pvr) ∧ w'.cell? ⟨gp, i * 9 + 4, none⟩ = some (.slice a1 isr.length c1) ∧ w'.cell? ⟨gp, i * 9 + 5, none⟩ = some (.slice a2 reps.length c2) ∧ w'.cell? ⟨gp, i * 9 + 6, none⟩ = some (.slice a3 add.length c3) ∧ w'.cell? ⟨gp, i * 9 + 7, none⟩ = some (.slice a4 rem.length c4) ∧ w'.cell? ⟨gp, i * 9 + 8, none⟩ = some (.int .i64 mn) ∧ w'.cell? ⟨gq, i * 9, none⟩ = some (.int .i64 qid) ∧ w'.cell? ⟨gq, i * 9 + 1, none⟩ = some (.int .i64 qld) ∧ w'.cell? ⟨gq, i * 9 + 2, none⟩ = some (.int .i64 qep) ∧ w'.cell? ⟨gq, i * 9 + 3, none⟩ = some (.int .i64 qvr) ∧ w'.cell? ⟨gq, i * 9 + 4, none⟩ = some (.slice x1 jsr.length y1) ∧ w'.cell? ⟨gq, i * 9 + 5, none⟩ = some (.slice x2 jeps.length y2) ∧ w'.cell? ⟨gq, i * 9 + 6, none⟩ = some (.slice x3 jdd.length y3) ∧ w'.cell? ⟨gq, i * 9 + 7, none⟩ = some (.slice x4 jem.length y4) ∧ w'.cell? ⟨gq, i * 9 + 8, none⟩ = some (.int .i64 nn) ∧ w'.cell? ⟨b, off + m * 8, none⟩ = some (.int .i64 rk)) (go_keep)
                  (first
                  | (go_at_call 26; refine (G26.out _ (by first | exact Below.refl _ _ | exact (Below.refl _ _).drew | exact below_drewN (Below.refl _ _) _)).mono ?_; rintro e W8 ⟨rfl, hb⟩; have HB8 : Hid (Below wr.heap.size wr W8) := (by first | exact hb | exact (Below.refl _ _).drew.trans hb); replace k0 := kept_cell hb k0; replace k1 := kept_cell hb k1; replace k2 := kept_cell hb k2; replace k3 := kept_cell hb k3; replace k4 := kept_cell hb k4; replace k5 := kept_cell hb k5; replace k6 := kept_cell hb k6; replace k7 := kept_cell hb k7; replace k8 := kept_cell hb k8; replace z0 := kept_cell hb z0; replace z1 := kept_cell hb z1; replace z2 := kept_cell hb z2; replace z3 := kept_cell hb z3; replace z4 := kept_cell hb z4; replace z5 := kept_cell hb z5; replace z6 := kept_cell hb z6; replace z7 := kept_cell hb z7; replace z8 := kept_cell hb z8; replace mk0 := kept_cell hb mk0; clear hb)
                  | fail)
                all_goals
                  go_wp2_with fail
                  go_meet
                  case rel => exact ⟨rfl, HBX.out.trans (HB8.out.mono HBX.out.size)⟩
              case rest =>
                obtain ⟨rfl, HBC⟩ := hcut
                clear G26 HBX k0 k1 k2 k3 k4 k5 k6 k7 k8 z0 z1 z2 z3 z4 z5 z6 z7 z8 mk0
                go_wp2_with fail
                go_roundg (I.parts.length - (i + 1))
                case measure => omega
                case rel => exact ⟨i + 1, by omega, Nat.le_refl _, by go_num, HBC.out⟩
            · have hil2 : ¬ (i : Int) < (I.parts.length : Int) := by omega
              have HE : Hid (RI w wr q1 q2 (m + 1)) := ⟨J1, HT8.out.under HBW.out, HLJ.out, HAP.out⟩
              clear HT8 HN8 HP8 HBW
              go_wp2_with fail
              go_roundg (120 - (m + 1))
              case measure => omega
              case rel => exact ⟨m + 1, by omega, Nat.le_refl _, by go_num, HE.out⟩
    · obtain ⟨I, hTW, _⟩ := HM.out
      have HB := hid hTW.below
      clear hTW
      by_cases h1 : m < ops.length
      · have h2 : ¬ (m : Int) < 120 := fun hh => hl2 ⟨h1, by omega⟩
        have h1' : (m : Int) < (ops.length : Int) := by omega
        clear hl2
        go_wp2_with fail
        go_ret
        exact ⟨rfl, HB.out⟩
      · have h1' : ¬ (m : Int) < (ops.length : Int) := by omega
        clear hl2
        go_wp2_with fail
        go_ret
        exact ⟨rfl, HB.out⟩
end Go.Proofs.YtcffomhcmilcpaaGreat

