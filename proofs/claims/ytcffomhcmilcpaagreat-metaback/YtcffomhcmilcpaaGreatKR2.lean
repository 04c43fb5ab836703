/- rises: from one state to the next. -/
import Derived.Test.YtcffomhcmilcpaaGreatKR1
import Derived.Test.YtcffomhcmilcpaaGreatK29
namespace Go.Proofs.YtcffomhcmilcpaaGreat
open Go.RowKit Go.Maps
set_option maxRecDepth 100000
set_option linter.unusedSimpArgs false
set_option linter.unusedVariables false

theorem two_boxes (w : World) (O P : Obj) : ((w.alloc O).alloc P).heap[w.heap.size]? = some O ∧ ((w.alloc O).alloc P).heap[w.heap.size + 1]? = some P ∧ Below w.heap.size w ((w.alloc O).alloc P) := by
  refine ⟨?_, ?_, ((Below.refl _ _).alloc (Nat.le_refl _) _).alloc (by simp) _⟩
  · rw [Below.heap_alloc _ _ _ (by simp)]; exact heap_alloc_new _ _
  · have := heap_alloc_new (w.alloc O) P
    rw [show (w.alloc O).heap.size = w.heap.size + 1 by simp] at this
    exact this
set_option maxHeartbeats 12800000 in
theorem rises_any {w : World} {vp vq : Value} {p q : Pt} {k : Int} (hp : PartM w vp p) (hq : PartM w vq q) (hk : I64 k) (hr : Rise p q k) (hb : p.ver ≤ 1000000000 ∧ -1000000000 ≤ p.ver) :
    Calls Tryz.prog 26 #[vp, vq, .int .i64 k] w fun e w' => e = .returned (.bool true) ∧ Below w.heap.size w w' := by
  obtain ⟨pid, pld, pep, pvr, pisr, preps, padd, prem, pmn⟩ := p
  obtain ⟨qid, qld, qep, qvr, qisr, qreps, qadd, qrem, qmn⟩ := q
  obtain ⟨a1, c1, a2, c2, a3, c3, a4, c4, rfl, i1, i2, i3, i4, k1, k2, k3, k4, k5⟩ := hp.open
  obtain ⟨b1, d1, b2, d2, b3, d3, b4, d4, rfl, j1, j2, j3, j4, m1, m2, m3, m4, m5⟩ := hq.open
  obtain ⟨rv, re, rl, rr, rd⟩ := hr
  simp only at rv re rl rr rd i1 i2 i3 i4 j1 j2 j3 j4 k1 k2 k3 k4 k5 m1 m2 m3 m4 m5 hb ⊢
  have HI1 := hid i1
  have HI2 := hid i2
  have HI3 := hid i3
  have HJ2 := hid j2
  have RR := hid rr
  have RD := hid rd
  have RL := hid rl
  have RE := hid re
  have RV := hid rv
  clear hp hq i1 i2 i3 i4 j1 j2 j3 j4 rr rd rl re rv
  obtain ⟨t1, t2, t3⟩ := two_boxes w (.cells #[.int .i64 pid, .int .i64 pld, .int .i64 pep, .int .i64 pvr, .slice a1 pisr.length c1, .slice a2 preps.length c2, .slice a3 padd.length c3, .slice a4 prem.length c4, .int .i64 pmn] 54) (.cells #[.int .i64 qid, .int .i64 qld, .int .i64 qep, .int .i64 qvr, .slice b1 qisr.length d1, .slice b2 qreps.length d2, .slice b3 qadd.length d3, .slice b4 qrem.length d4, .int .i64 qmn] 54)
  have HB := hid t3
  have p1 := cell_blk t1 1 (.int .i64 pld) rfl
  have p2 := cell_blk t1 2 (.int .i64 pep) rfl
  have p3 := cell_blk t1 3 (.int .i64 pvr) rfl
  have p4 := cell_blk t1 4 (.slice a1 pisr.length c1) rfl
  have p5 := cell_blk t1 5 (.slice a2 preps.length c2) rfl
  have p6 := cell_blk t1 6 (.slice a3 padd.length c3) rfl
  have q1 := cell_blk t2 1 (.int .i64 qld) rfl
  have q2 := cell_blk t2 2 (.int .i64 qep) rfl
  have q3 := cell_blk t2 3 (.int .i64 qvr) rfl
  have q5 := cell_blk t2 5 (.slice b2 qreps.length d2) rfl
  clear t1 t2 t3
  go_enter Tryz.func26, Tryz.ntmps26
  go_upto_region 1 with fail
  generalize ((w.alloc (.cells #[.int .i64 pid, .int .i64 pld, .int .i64 pep, .int .i64 pvr, .slice a1 pisr.length c1, .slice a2 preps.length c2, .slice a3 padd.length c3, .slice a4 prem.length c4, .int .i64 pmn] 54)).alloc (.cells #[.int .i64 qid, .int .i64 qld, .int .i64 qep, .int .i64 qvr, .slice b1 qisr.length d1, .slice b2 qreps.length d2, .slice b3 qadd.length d3, .slice b4 qrem.length d4, .int .i64 qmn] 54)) = V at *
  generalize w.heap.size + 1 = y at *
  generalize hx : w.heap.size = x at p1 p2 p3 p4 p5 p6 ⊢
  clear hx
  have hw1 : IntKind.i64.wrap (pvr + 1) = pvr + 1 := IntWalk.i64_in _ ⟨by omega, by omega⟩
  go_cut [45] from 13 to 45 (fun s45 U => s45 = .bool false ∧ U = V)
  case first =>
    have v1 : ¬ (qvr < pvr) := by rcases RV.out with h | h <;> omega
    have v2 : ¬ (pvr + 1 < qvr) := by rcases RV.out with h | h <;> omega
    rcases RE.out with ⟨h1, h2⟩ | ⟨h1, h2⟩
    · subst h1 h2
      have v3 : ¬ (qep < qep) := by omega
      go_wp2_with fail
      go_meet
      case rel => exact ⟨rfl, rfl⟩
    · have v3 : ¬ (qep < pep) := by omega
      have v4 : pep < qep := by omega
      have v5 : (qld == pld) = false := by simp [h1]
      clear h2
      go_wp2_with fail
      go_meet
      case rel => exact ⟨by simp [h1], rfl⟩
  case rest =>
    obtain ⟨rfl, rfl⟩ := hcut
    obtain ⟨B, hB⟩ : ∃ B : Bool, decide (qld ≠ 0 ∧ qld ≠ pld) = B := ⟨_, rfl⟩
    have HBD := hid hB
    go_upto_region 3 with fail
    go_cut [55] from 46 to 55 (fun s55 U => s55 = .bool B ∧ U = wc)
    case first =>
      by_cases h1 : qld = 0
      · subst h1
        have hB' : B = false := by rw [← hB]; simp
        subst hB'
        go_wp2_with fail
        go_meet
        case rel => exact ⟨rfl, rfl⟩
      · have h1' : (qld == 0) = false := by simp [h1]
        by_cases h2 : qld = pld
        · subst h2
          have hB' : B = false := by rw [← hB]; simp
          subst hB'
          go_wp2_with fail
          go_meet
          case rel => exact ⟨by simp, rfl⟩
        · have h2' : (qld == pld) = false := by simp [h2]
          have hB' : B = true := by rw [← hB]; simp [h1, h2]
          subst hB'
          go_wp2_with fail
          go_meet
          case rel => exact ⟨by simp [h1, h2], rfl⟩
    case rest =>
      obtain ⟨rfl, rfl⟩ := hcut
      clear hB
      go_upto_if 55 with fail
      go_cut [] from 7 to 62 (fun U => U = wc)
      case first =>
        cases B with
        | false =>
          go_wp2_with fail
          go_meet
          case rel => rfl
        | true =>
          have hin : hasB pisr qld = true := by
            have := of_decide_eq_true HBD.out
            exact hasB_iff.2 (RL.out this.1 this.2)
          have HC := hid (in_any (HI1.out.under HB.out) qld m2)
          rw [hin] at HC
          clear hin
          go_wp2_with fail
          refine HC.out.mono ?_
          rintro e w1 ⟨rfl, rfl⟩
          go_wp2_with fail
          go_meet
          case rel => rfl
      case rest =>
        obtain rfl := hcut
        clear HBD RL RE RV hw1
        generalize wc = V0 at *
        go_wp2_with fail
        go_loopg [8] preps.length (fun kx s8 wr => ∃ i : Nat, i ≤ preps.length ∧ preps.length - i ≤ kx ∧ s8 = .int .i64 (i : Int) ∧ Hid (Below V0.heap.size V0 wr))
        case atStart => exact ⟨0, Nat.zero_le _, by omega, rfl, Below.refl _ _⟩
        case round =>
          obtain ⟨i, hi, hix, rfl, HBW⟩ := hrel
          have p3' := kept_cell HBW.out p3
          have p4' := kept_cell HBW.out p4
          have p5' := kept_cell HBW.out p5
          have p6' := kept_cell HBW.out p6
          have q3' := kept_cell HBW.out q3
          have q5' := kept_cell HBW.out q5
          have HBA : Hid (Below w.heap.size w wr) := HB.out.trans (HBW.out.mono HB.out.size)
          by_cases hlt : i < preps.length
          · have hlt' : (i : Int) < (preps.length : Int) := by omega
            obtain ⟨⟨a2', c2', e2, _, _, _, hat2⟩, hok2, _⟩ := HI2.out.under HBA.out
            obtain ⟨rfl, _, rfl⟩ := Value.slice.inj e2
            obtain ⟨br, off, rfl, hbr, hcr⟩ := hat2 (by intro e; rw [e] at hlt; simp at hlt)
            have hci := hcr i hlt
            have hxo := hok2 preps[i] (List.getElem_mem hlt)
            have HRX := hid (RR.out preps[i] (List.getElem_mem hlt))
            clear hat2 e2 hcr hok2
            generalize preps[i] = x0 at *
            have HC1 : Hid (∀ U, Below wr.heap.size wr U → Calls Tryz.prog 25 #[.slice b2 qreps.length d2, .int .i64 x0] U fun e w' => e = .returned (.bool (hasB qreps x0)) ∧ w' = U) := fun U hU => by
              refine (in_any ((HJ2.out.under HBA.out).under hU) x0 hxo).mono ?_
              rintro e w' ⟨rfl, rfl⟩
              exact ⟨rfl, rfl⟩
            have HC2 : Hid (∀ U, Below wr.heap.size wr U → Calls Tryz.prog 25 #[.slice a3 padd.length c3, .int .i64 x0] U fun e w' => e = .returned (.bool (hasB padd x0)) ∧ w' = U) := fun U hU => by
              refine (in_any ((HI3.out.under HBA.out).under hU) x0 hxo).mono ?_
              rintro e w' ⟨rfl, rfl⟩
              exact ⟨rfl, rfl⟩
            have HCA : Hid (hasB qreps x0 = true ∨ k = 10 ∨ (k = 7 ∧ hasB padd x0 = true)) := by
              rcases HRX.out with h | h | ⟨h1, h2⟩
              · exact .inl (hasB_iff.2 h)
              · exact .inr (.inl h)
              · exact .inr (.inr ⟨h1, hasB_iff.2 h2⟩)
            generalize hasB qreps x0 = g1 at *
            generalize hasB padd x0 = g2 at *
            have hi0 : (0 : Int) ≤ (i : Int) := by omega
            clear HRX
            go_upto_region 10 with fail
            go_cut [9] from 70 to 77 (fun s9 U => s9 = .bool g1 ∧ Hid (Below wr.heap.size wr U))
            case first =>
              go_quiet ((go_at_call 25; refine Calls.quiet_of_same (HC1.out _ ?_); exact below_drewN (Below.refl _ _) _))
              all_goals
                go_wp2_with fail
                go_meet
                case rel => exact ⟨rfl, below_drewN (Below.refl _ _) _⟩
            case rest =>
              obtain ⟨rfl, HU1⟩ := hcut
              have p5u := kept_cell HU1.out p5'
              have p6u := kept_cell HU1.out p6'
              have hcu := kept_cell HU1.out hci
              clear p3' p4' p5' p6' q3' q5' hci HC1
              generalize wc = U1 at *
              go_upto_region 11 with fail
              go_cut [10] from 78 to 85 (fun s10 U => s10 = .bool g2 ∧ Hid (Below wr.heap.size wr U))
              case first =>
                go_quiet ((go_at_call 25; refine Calls.quiet_of_same (HC2.out _ ?_); exact below_drewN HU1.out _))
                all_goals
                  go_wp2_with fail
                  go_meet
                  case rel => exact ⟨rfl, below_drewN HU1.out _⟩
              case rest =>
                obtain ⟨rfl, HU2⟩ := hcut
                have HBZ : Hid (Below V0.heap.size V0 wc) := HBW.out.trans (HU2.out.mono HBW.out.size)
                clear HC2 HU1 HU2 p5u p6u hcu HBW
                rcases HCA.out with h | h | ⟨h1, h2⟩
                · subst h
                  go_wp2_with fail
                  go_roundg (preps.length - (i + 1))
                  case measure => omega
                  case rel => exact ⟨i + 1, by omega, Nat.le_refl _, by go_num, HBZ.out⟩
                · subst h
                  cases g1
                  · go_wp2_with fail
                    go_roundg (preps.length - (i + 1))
                    case measure => omega
                    case rel => exact ⟨i + 1, by omega, Nat.le_refl _, by go_num, HBZ.out⟩
                  · go_wp2_with fail
                    go_roundg (preps.length - (i + 1))
                    case measure => omega
                    case rel => exact ⟨i + 1, by omega, Nat.le_refl _, by go_num, HBZ.out⟩
                · subst h1 h2
                  cases g1
                  · go_wp2_with fail
                    go_roundg (preps.length - (i + 1))
                    case measure => omega
                    case rel => exact ⟨i + 1, by omega, Nat.le_refl _, by go_num, HBZ.out⟩
                  · go_wp2_with fail
                    go_roundg (preps.length - (i + 1))
                    case measure => omega
                    case rel => exact ⟨i + 1, by omega, Nat.le_refl _, by go_num, HBZ.out⟩
          · have hlt' : ¬ (i : Int) < (preps.length : Int) := by omega
            clear hi hix hlt RR p1 p2 p3 p4 p5 p6 q1 q2 q3 q5
            generalize wr = V1 at *
            by_cases hd : k = 10
            · subst hd
              by_cases hv : pvr < qvr
              · have HD2 : Hid (∀ x ∈ qreps, x ∈ pisr) := RD.out rfl (by omega)
                go_wp2_with fail
                go_loopg [11] qreps.length (fun kx s11 wr => ∃ i : Nat, i ≤ qreps.length ∧ qreps.length - i ≤ kx ∧ s11 = .int .i64 (i : Int) ∧ Hid (Below V1.heap.size V1 wr))
                case atStart => exact ⟨0, Nat.zero_le _, by omega, rfl, Below.refl _ _⟩
                case round =>
                  obtain ⟨i, hi, hix, rfl, HBX⟩ := hrel
                  have p4x := kept_cell HBX.out p4'
                  have q5x := kept_cell HBX.out q5'
                  have HBY : Hid (Below w.heap.size w wr) := HBA.out.trans (HBX.out.mono HBA.out.size)
                  by_cases hlt : i < qreps.length
                  · have hlt2 : (i : Int) < (qreps.length : Int) := by omega
                    obtain ⟨⟨a2', c2', e2, _, _, _, hat2⟩, hok2, _⟩ := HJ2.out.under HBY.out
                    obtain ⟨rfl, _, rfl⟩ := Value.slice.inj e2
                    obtain ⟨br, off, rfl, hbr, hcr⟩ := hat2 (by intro e; rw [e] at hlt; simp at hlt)
                    have hci := hcr i hlt
                    have hxo := hok2 qreps[i] (List.getElem_mem hlt)
                    have hin : hasB pisr qreps[i] = true := hasB_iff.2 (HD2.out _ (List.getElem_mem hlt))
                    clear hat2 e2 hcr hok2
                    generalize qreps[i] = x0 at *
                    have HC1 : Hid (∀ U, Below wr.heap.size wr U → Calls Tryz.prog 25 #[.slice a1 pisr.length c1, .int .i64 x0] U fun e w' => e = .returned (.bool true) ∧ w' = U) := fun U hU => by
                      refine (in_any ((HI1.out.under HBY.out).under hU) x0 hxo).mono ?_
                      rintro e w' ⟨rfl, rfl⟩
                      rw [hin]
                      exact ⟨rfl, rfl⟩
                    have hi0 : (0 : Int) ≤ (i : Int) := by omega
                    clear hin
                    go_upto_region 18 with fail
                    go_cut [12] from 116 to 123 (fun s12 U => s12 = .bool true ∧ Hid (Below wr.heap.size wr U))
                    case first =>
                      go_quiet ((go_at_call 25; refine Calls.quiet_of_same (HC1.out _ ?_); exact below_drewN (Below.refl _ _) _))
                      all_goals
                        go_wp2_with fail
                        go_meet
                        case rel => exact ⟨rfl, below_drewN (Below.refl _ _) _⟩
                    case rest =>
                      obtain ⟨rfl, HU2⟩ := hcut
                      have HBZ : Hid (Below V1.heap.size V1 wc) := HBX.out.trans (HU2.out.mono HBX.out.size)
                      clear HU2 HBX HC1 hci p4x q5x
                      go_wp2_with fail
                      go_roundg (qreps.length - (i + 1))
                      case measure => omega
                      case rel => exact ⟨i + 1, by omega, Nat.le_refl _, by go_num, HBZ.out⟩
                  · have hlt2 : ¬ (i : Int) < (qreps.length : Int) := by omega
                    go_wp2_with fail
                    go_ret
                    exact ⟨rfl, HBY.out⟩
              · go_wp2_with fail
                go_ret
                exact ⟨rfl, HBA.out⟩
            · have hd' : (k == 10) = false := by simp [hd]
              go_wp2_with fail
              go_ret
              exact ⟨rfl, HBA.out⟩
end Go.Proofs.YtcffomhcmilcpaaGreat

