/- Are groups the document's? -/
import Derived.Test.YtdnpbhijjmlecaaZ26
import Derived.BigQuiet
import Derived.Deep.CutRange
import Derived.Deep.CutBlock
namespace Go.Proofs.Ytdnpbhijjmlecaa
open Go.RowKit Go.Maps
set_option maxRecDepth 100000
set_option linter.unusedSimpArgs false
set_option linter.unusedVariables false

theorem size_list (b : ByteArray) : b.size = b.data.toList.length := by obtain ⟨s⟩ := b; simp [ByteArray.size]
theorem encStr_own (b : ByteArray) : encStr b.data.toList = .string b := by
  obtain ⟨s⟩ := b
  simp [encStr]
theorem found_at {M : Nat} {S : Gs} (ho : GsOk M S) (i : Nat) (hi : i < S.gs.length) : foundG S.gs S.gs[i].1 = S.gs[i].2 := by
  unfold foundG
  cases hg : getG S.gs S.gs[i].1 with
  | none =>
    unfold getG at hg
    simp only [Option.map_eq_none_iff, List.find?_eq_none] at hg
    have := hg S.gs[i] (List.getElem_mem hi)
    simp at this
  | some x =>
    have h1 := get_mem hg
    obtain ⟨j, hj, e⟩ := List.mem_iff_getElem.1 h1
    have e1 : S.gs[j].1 = S.gs[i].1 := by rw [e]
    have e2 : S.gs[j].2 = x := by rw [e]
    have : j = i := by
      rcases Nat.lt_trichotomy j i with h | h | h
      · exact absurd e1 (List.pairwise_iff_getElem.1 ho.names j i hj hi h)
      · exact h
      · exact absurd e1.symm (List.pairwise_iff_getElem.1 ho.names i j hi hj h)
    subst this
    rw [← e2]; rfl
theorem names_same {N : Nat} {es : List Ent} {ep : Int} {S : Gs} (h : RelS N es ep S) : (S.gs.map (·.1)).map encStr = es.map fun e => .string e.n := by
  apply List.ext_getElem
  · simp [h.len]
  · intro i h1 h2
    simp only [List.getElem_map]
    have := (h.each i (by simpa using h2) (by simpa using h1)).1
    rw [← this, encStr_own]
set_option maxHeartbeats 6400000 in
theorem alike_any {w : World} {Zp : Nat → Prop} {q r : Nat} {S : Gs} {N M k0 : Nat} {vl : Value} {es : List Ent} {ep : Int} (hp : AllM w Zp q S) (hok : GsOk M S) (hev : EvOk k0 S) (hd : DC w r vl es ep) (hr : RelS N es ep S) (hN : N ≤ 100000) (part : Int) (hpart : I64 part) :
    Calls Try.prog 14 #[.pointer (some ⟨q, 0, none⟩), .pointer (some ⟨r, 0, none⟩), .int .i64 part] w fun e w' => e = .returned (.bool true) ∧ Below w.heap.size w w' := by
  have HP := hid hp
  have HD := hid hd
  have HOK := hid hok
  have HR := hid hr
  have HEV := hid hev
  have HNM := hid (names_any hp hok)
  rw [names_same hr, ← hr.len] at HNM
  have hfew : es.length ≤ 8 := by have := hok.few; have := hr.len; omega
  have HEP : Hid (∀ V, Below w.heap.size w V → Calls Try.prog 19 #[.pointer (some ⟨q, 0, none⟩)] V fun e w' => e = .returned (.int .i64 ep) ∧ V = w') := fun V hV => by rw [hr.ep]; exact epoch_any (hp.under hV)
  have HPT := hid hpart
  have HNG : Hid (∀ V, Below w.heap.size w V → Calls Try.prog 18 #[.pointer (some ⟨q, 0, none⟩), .string noB] V fun e w' => e = .returned (.int .i64 0) ∧ Below V.heap.size V w') := fun V hV => by
    have := gen_any (hp.under hV) noB (by unfold maxLen; decide)
    rw [no_found hev] at this; exact this
  have HNE : Hid (∀ V, Below w.heap.size w V → Calls Try.prog 22 #[.pointer (some ⟨q, 0, none⟩), .string noB] V fun e w' => ∃ a c, e = .returned (.slice a 0 c) ∧ Below V.heap.size V w') := fun V hV => by
    refine (Members_any (hp.under hV) hok noB (by unfold maxLen; decide)).mono ?_
    rw [no_found hev]
    rintro e w' ⟨a, c, h1, _, _, h4⟩
    exact ⟨a, c, h1, h4⟩
  have HNO : Hid (∀ V, Below w.heap.size w V → Calls Try.prog 20 #[.pointer (some ⟨q, 0, none⟩), .string noB, .int .i64 part] V fun e w' => e = .returned (.int .i64 0) ∧ Below V.heap.size V w') := fun V hV => by
    have := Owner_any (hp.under hV) hok noB (by unfold maxLen; decide) part hpart
    rw [no_found hev] at this; exact this
  have HNF : Hid (∀ V, Below w.heap.size w V → Calls Try.prog 21 #[.pointer (some ⟨q, 0, none⟩), .string noB, .int .i64 part] V fun e w' => e = .returned (.int .i64 (-1)) ∧ Below V.heap.size V w') := fun V hV => by
    have := Offset_any (hp.under hV) noB (by unfold maxLen; decide) part hpart
    rw [no_found hev] at this; exact this
  clear hp hd hok hr hev hpart
  go_enter Try.func14, Try.ntmps14
  go_wp2_with fail
  refine HNM.out.mono ?_
  rintro e w1 ⟨v, rfl, hrow, hb1⟩
  obtain ⟨na, nc, rfl, _, _, _, hng⟩ := row_shape (row_base hrow)
  have HROW := hid (row_base hrow)
  have HNGA := hid hng
  have HB1 := hid hb1
  have d0 := (HD.out.under hb1).c0
  have d1 := (HD.out.under hb1).c1
  obtain ⟨va, vc, hvl, _⟩ := row_shape HD.out.row
  rw [hvl] at d0
  have HVL := hid hvl
  have hB0 : Below w1.heap.size w1 w1 := Below.refl _ _
  clear hrow hb1 hng hvl HNM
  go_upto_region 2 with fail
  go_cut [30] from 14 to 31 (fun s30 V => s30 = .bool false ∧ Hid (Below w1.heap.size w1 V))
  case first =>
    go_wp2_with fail
    go_region_held3 (fun V => V.cell? ⟨r, 0, none⟩ = some (.slice va es.length vc) ∧ V.cell? ⟨r, 1, none⟩ = some (.int .i64 ep)) (go_keep)
      (first | (go_at_call 19; refine (HEP.out _ (HB1.out.trans ((show Below w1.heap.size w1 _ by repeat (first | exact hB0 | apply Below.drew)).mono HB1.out.size))).mono ?_; rintro e w2 ⟨rfl, rfl⟩) | fail)
    go_wp2_with fail
    go_meet
    case rel => exact ⟨rfl, by first | exact hB0 | exact hB0.drew | exact below_drewN hB0 _⟩
  case rest =>
    obtain ⟨rfl, HBc⟩ := hcut
    generalize wc = wa at *
    have HBW := hid (HB1.out.trans (HBc.out.mono HB1.out.size))
    have HROWA := hid (row_kept HROW.out (fun k hk => HBc.out.block k (row_lt HROW.out hk)))
    clear d0 d1 HROW hB0 HEP HBc HB1
    go_wp2_with fail
    go_loopg [8, 9, 10, 11] es.length (fun kx s8 s9 s10 s11 wr => ∃ i : Nat, i ≤ es.length ∧ es.length - i ≤ kx ∧ s8 = .int .i64 (i : Int) ∧ Hid (Below wa.heap.size wa wr))
    case atStart => exact ⟨0, Nat.zero_le _, by omega, rfl, Below.refl _ _⟩
    case round =>
      obtain ⟨i, hi, hix, rfl, HBl⟩ := hrel
      have hBR := HBW.out.trans (HBl.out.mono HBW.out.size)
      have HBR := hid hBR
      by_cases hlt : i < es.length
      · have hlt' : (i : Int) < (es.length : Int) := by omega
        have hi0 : (0 : Int) ≤ (i : Int) := by omega
        have hS := HR.out.len
        have hiS : i < S.gs.length := by omega
        have hdc := HD.out.under hBR
        have d0 := hdc.c0
        rw [HVL.out] at d0
        obtain ⟨gg, hgg, hcg⟩ := by
          have h9 := hdc
          rw [HVL.out] at h9
          exact h9.at i hlt
        subst hgg
        obtain ⟨hnn, hrel⟩ := HR.out.each i hlt hiS
        have hok1 : GrOk M S.gs[i].2 := (HOK.out.each _ (List.getElem_mem hiS)).1
        have hn32 : es[i].n.size ≤ maxLen := by
          have h9 := (HOK.out.each _ (List.getElem_mem hiS)).2
          rw [← hnn] at h9
          have := size_list es[i].n
          unfold maxLen; omega
        have hfnd : foundG S.gs es[i].n.data.toList = S.gs[i].2 := by rw [hnn]; exact found_at HOK.out i hiS
        obtain ⟨ng, hng⟩ := HNGA.out (by omega)
        subst hng
        have hrc : wr.cell? ⟨ng, i, none⟩ = some (.string es[i].n) := by
          have h9 := World.ownsRow.cells (row_kept HROWA.out (fun k hk => HBl.out.block k (row_lt HROWA.out hk))) (g := ng) rfl i (.string es[i].n) (by rw [List.getElem?_map, List.getElem?_eq_getElem hlt]; rfl)
          rw [add_at, Nat.zero_add] at h9
          exact h9
        have HE : Hid (DEnt wr es[i]) := hdc.each es[i] (List.getElem_mem hlt)
        obtain ⟨O, hO⟩ : ∃ O : Int → Int, ∀ p, O p = ownD es[i].d.mem es[i].d.parts p es[i].d.mem := ⟨fun p => _, fun p => rfl⟩
        obtain ⟨F, hF⟩ : ∃ F : Int → Int, ∀ p, F p = firstK es[i].d.offs p := ⟨fun p => _, fun p => rfl⟩
        have HMB : Hid (∀ V, Below wr.heap.size wr V → Calls Try.prog 22 #[.pointer (some ⟨q, 0, none⟩), .string es[i].n] V fun e w' => ∃ a c, e = .returned (.slice a es[i].d.mem.length c) ∧ IL w' (.slice a es[i].d.mem.length c) es[i].d.mem ∧ Below V.heap.size V w') := fun V hV => by
          have h9 := Members_any (HP.out.under (HBR.out.trans (hV.mono HBR.out.size))) HOK.out es[i].n hn32
          rw [hfnd, ← hrel.mem] at h9
          refine h9.mono ?_
          rintro e w' ⟨a, c, g1, g2, _, g4⟩
          exact ⟨a, c, g1, g2, g4⟩
        have HGN : Hid (∀ V, Below wr.heap.size wr V → Calls Try.prog 18 #[.pointer (some ⟨q, 0, none⟩), .string es[i].n] V fun e w' => e = .returned (.int .i64 es[i].d.gen) ∧ Below V.heap.size V w') := fun V hV => by
          have h9 := gen_any (HP.out.under (HBR.out.trans (hV.mono HBR.out.size))) es[i].n hn32
          rw [hfnd, ← hrel.gen] at h9
          exact h9
        have HOW : Hid (∀ p, I64 p → ∀ V, Below wr.heap.size wr V → Calls Try.prog 20 #[.pointer (some ⟨q, 0, none⟩), .string es[i].n, .int .i64 p] V fun e w' => e = .returned (.int .i64 (O p)) ∧ Below V.heap.size V w') := fun p hp V hV => by
          have h9 := Owner_any (HP.out.under (HBR.out.trans (hV.mono HBR.out.size))) HOK.out es[i].n hn32 p hp
          rw [hfnd, ← rel_own (M := M) hrel hok1 p, ← hO] at h9
          exact h9
        have HRO : Hid (∀ p V, Below wr.heap.size wr V → Calls Try.prog 31 #[.pointer (some ⟨es[i].b, 0, none⟩), .int .i64 p] V fun e w' => e = .returned (.int .i64 (O p)) ∧ Below V.heap.size V w') := fun p V hV => by
          rw [hO]; exact rowner_any ((show DgR _ _ _ _ _ _ _ _ from HE.out).under hV) p
        have HOF : Hid (∀ p, I64 p → ∀ V, Below wr.heap.size wr V → Calls Try.prog 21 #[.pointer (some ⟨q, 0, none⟩), .string es[i].n, .int .i64 p] V fun e w' => e = .returned (.int .i64 (F p)) ∧ Below V.heap.size V w') := fun p hp V hV => by
          have h9 := Offset_any (HP.out.under (HBR.out.trans (hV.mono HBR.out.size))) es[i].n hn32 p hp
          rw [hfnd, ← hrel.offs p, ← hF] at h9
          exact h9
        have hol : es[i].d.offs.length ≤ 100000 := by have := hrel.olen; omega
        have HRF : Hid (∀ p V, Below wr.heap.size wr V → Calls Try.prog 27 #[.pointer (some ⟨es[i].b, 0, none⟩), .int .i64 p] V fun e w' => e = .returned (.int .i64 (F p)) ∧ V = w') := fun p V hV => by
          rw [hF]; exact roffset_any ((show DgR _ _ _ _ _ _ _ _ from HE.out).under hV) hol p
        have HC0 : Hid (∀ V, Below wr.heap.size wr V → V.cell? ⟨es[i].b, 0, none⟩ = some (.string es[i].n) ∧ V.cell? ⟨es[i].b, 1, none⟩ = some (.int .i64 es[i].d.gen) ∧ V.cell? ⟨es[i].b, 3, none⟩ = some es[i].vm ∧ V.cell? ⟨ng, i, none⟩ = some (.string es[i].n)) := fun V hV => by
          have h9 : DgR V es[i].b es[i].n es[i].vm es[i].vp es[i].vo es[i].vn es[i].d := (show DgR _ _ _ _ _ _ _ _ from HE.out).under hV
          exact ⟨h9.c0, h9.c1, h9.c3, kept_cell hV hrc⟩
        have HIM : Hid (∀ V, Below wr.heap.size wr V → IL V es[i].vm es[i].d.mem) := fun V hV => ((show DgR _ _ _ _ _ _ _ _ from HE.out).under hV).il
        have hbr0 : Below wr.heap.size wr wr := Below.refl _ _
        clear hdc hnn hrel hok1 hn32 hfnd hO hF hol hiS hS hrc HE
        generalize es[i] = x at *
        obtain ⟨e0, e1, e3, en⟩ := HC0.out wr hbr0
        clear e1
        go_upto_region 8 with fail
        go_cut [10] from 44 to 55 (fun s10 V => s10 = .bool true ∧ Hid (Below wr.heap.size wr V))
        case first =>
          clear en
          go_wp2_with fail
          go_region_held3 (fun V => V.cell? ⟨x.b, 0, none⟩ = some (.string x.n) ∧ V.cell? ⟨x.b, 3, none⟩ = some x.vm) (go_keep)
            (first
              | (go_at_call 22; refine (HMB.out _ (show Below wr.heap.size wr _ by repeat (first | exact hbr0 | apply Below.drew))).mono ?_; rintro e w5 ⟨ma, mc, rfl, hil5, hb5⟩; have hB5 := (show Below wr.heap.size wr _ by repeat (first | exact hbr0 | apply Below.drew)).trans (hb5.mono (show Below wr.heap.size wr _ by repeat (first | exact hbr0 | apply Below.drew)).size); have HB5 := hid hB5; have HIL5 := hid hil5; obtain ⟨f0, _, f3, _⟩ := HC0.out _ hB5; clear hb5 hil5)
              | (go_at_call 17; refine (sameList_any (HIL5.out.under (show Below w5.heap.size w5 _ by repeat (first | exact Below.refl _ _ | apply Below.drew))) (HIM.out _ (HB5.out.trans ((show Below w5.heap.size w5 _ by repeat (first | exact Below.refl _ _ | apply Below.drew)).mono HB5.out.size)))).mono ?_; rintro e w6 ⟨rfl, hb6⟩; have HB6 := hid (HB5.out.trans (((show Below w5.heap.size w5 _ by repeat (first | exact Below.refl _ _ | apply Below.drew)).trans (hb6.mono (show Below w5.heap.size w5 _ by repeat (first | exact Below.refl _ _ | apply Below.drew)).size)).mono HB5.out.size)); clear hb6 f0 f3; obtain ⟨f0, _, f3, _⟩ := HC0.out _ HB6.out)
              | fail)
          go_wp2_with fail
          go_meet
          case rel => exact ⟨by simp, by first | exact HB6.out | exact HB6.out.drew | exact below_drewN HB6.out _⟩
        case rest =>
          obtain ⟨rfl, HBc⟩ := hcut
          generalize wc = wb at *
          obtain ⟨e0', e1', _, en'⟩ := HC0.out wb HBc.out
          clear e0 e3 en HMB
          have hnl : (i : Int) < (es.length : Int) := hlt'
          go_upto_region 9 with fail
          go_cut [106] from 55 to 107 (fun s106 V => s106 = .bool false ∧ Hid (Below wr.heap.size wr V))
          case first =>
            have hsn : (x.n.toList == x.n.toList) = true := by simp
            go_wp2_with fail
            go_region_held3 (fun V => V.cell? ⟨x.b, 0, none⟩ = some (.string x.n) ∧ V.cell? ⟨x.b, 1, none⟩ = some (.int .i64 x.d.gen) ∧ V.cell? ⟨ng, i, none⟩ = some (.string x.n)) (go_keep)
              (first
                | (go_at_call 18; refine (HGN.out _ (HBc.out.trans ((show Below wb.heap.size wb _ by repeat (first | exact Below.refl _ _ | apply Below.drew)).mono HBc.out.size))).mono ?_; rintro e w5 ⟨rfl, hb5⟩; have HB5 := hid (HBc.out.trans (((show Below wb.heap.size wb _ by repeat (first | exact Below.refl _ _ | apply Below.drew)).trans (hb5.mono (show Below wb.heap.size wb _ by repeat (first | exact Below.refl _ _ | apply Below.drew)).size)).mono HBc.out.size)); clear hb5; obtain ⟨f0, f1, _, fn⟩ := HC0.out _ HB5.out)
                | (go_at_call 20; refine (HOW.out part HPT.out _ (HB5.out.trans ((show Below w5.heap.size w5 _ by repeat (first | exact Below.refl _ _ | apply Below.drew)).mono HB5.out.size))).mono ?_; rintro e w6 ⟨rfl, hb6⟩; have HB6 := hid (HB5.out.trans (((show Below w5.heap.size w5 _ by repeat (first | exact Below.refl _ _ | apply Below.drew)).trans (hb6.mono (show Below w5.heap.size w5 _ by repeat (first | exact Below.refl _ _ | apply Below.drew)).size)).mono HB5.out.size)); clear hb6 f0 f1 fn; obtain ⟨f0, f1, _, fn⟩ := HC0.out _ HB6.out)
                | (go_at_call 31; refine (HRO.out part _ (HB6.out.trans ((show Below w6.heap.size w6 _ by repeat (first | exact Below.refl _ _ | apply Below.drew)).mono HB6.out.size))).mono ?_; rintro e w7 ⟨rfl, hb7⟩; have HB7 := hid (HB6.out.trans (((show Below w6.heap.size w6 _ by repeat (first | exact Below.refl _ _ | apply Below.drew)).trans (hb7.mono (show Below w6.heap.size w6 _ by repeat (first | exact Below.refl _ _ | apply Below.drew)).size)).mono HB6.out.size)); clear hb7 f0 f1 fn; obtain ⟨f0, f1, _, fn⟩ := HC0.out _ HB7.out)
                | (go_at_call 21; refine (HOF.out part HPT.out _ (HB7.out.trans ((show Below w7.heap.size w7 _ by repeat (first | exact Below.refl _ _ | apply Below.drew)).mono HB7.out.size))).mono ?_; rintro e w8 ⟨rfl, hb8⟩; have HB8 := hid (HB7.out.trans (((show Below w7.heap.size w7 _ by repeat (first | exact Below.refl _ _ | apply Below.drew)).trans (hb8.mono (show Below w7.heap.size w7 _ by repeat (first | exact Below.refl _ _ | apply Below.drew)).size)).mono HB7.out.size)); clear hb8 f0 f1 fn; obtain ⟨f0, f1, _, fn⟩ := HC0.out _ HB8.out)
                | (go_at_call 27; refine (HRF.out part _ (HB8.out.trans ((show Below w8.heap.size w8 _ by repeat (first | exact Below.refl _ _ | apply Below.drew)).mono HB8.out.size))).mono ?_; rintro e w9 ⟨rfl, rfl⟩)
                | fail)
            go_wp2_with fail
            go_meet
            case rel => exact ⟨rfl, by first | exact HB8.out | exact HB8.out.drew | exact below_drewN HB8.out _⟩
          case rest =>
            obtain ⟨rfl, HBd⟩ := hcut
            generalize wc = wd at *
            clear e0' e1' en'
            go_wp2_with fail
            go_loopg [11] 17 (fun kx s11 wl => ∃ p : Nat, 1 ≤ p ∧ p ≤ 17 ∧ 17 - p ≤ kx ∧ s11 = .int .i64 (p : Int) ∧ Hid (Below wr.heap.size wr wl))
            case atStart => exact ⟨1, by omega, by omega, by omega, rfl, HBd.out⟩
            case round =>
              obtain ⟨p, hp1, hp17, hpx, rfl, HBp⟩ := hrel
              by_cases hp16 : p ≤ 16
              · have hp16' : (p : Int) ≤ 16 := by omega
                have hpi : I64 (p : Int) := by unfold I64; omega
                have HPI := hid hpi
                obtain ⟨g0, _, _, _⟩ := HC0.out _ HBp.out
                clear hpi
                go_wp2_with fail
                refine (HOW.out (p : Int) HPI.out _ HBp.out).mono ?_
                rintro e v1 ⟨rfl, hc1⟩
                have HV1 := hid (HBp.out.trans (hc1.mono HBp.out.size))
                clear hc1 g0
                obtain ⟨g0, _, _, _⟩ := HC0.out _ HV1.out
                go_wp2_with fail
                refine (HRO.out (p : Int) _ HV1.out).mono ?_
                rintro e v2 ⟨rfl, hc2⟩
                have HV2 := hid (HV1.out.trans (hc2.mono HV1.out.size))
                clear hc2 g0
                obtain ⟨g0, _, _, _⟩ := HC0.out _ HV2.out
                go_wp2_with fail
                refine (HOF.out (p : Int) HPI.out _ HV2.out).mono ?_
                rintro e v3 ⟨rfl, hc3⟩
                have HV3 := hid (HV2.out.trans (hc3.mono HV2.out.size))
                clear hc3 g0
                obtain ⟨g0, _, _, _⟩ := HC0.out _ HV3.out
                go_wp2_with fail
                refine (HRF.out (p : Int) _ HV3.out).mono ?_
                rintro e v4 ⟨rfl, rfl⟩
                go_wp2_with fail
                go_roundg (17 - (p + 1))
                case measure => omega
                case rel => exact ⟨p + 1, by omega, by omega, Nat.le_refl _, by go_num, HV3.out⟩
              · have hp16' : ¬ (p : Int) ≤ 16 := by omega
                go_wp2_with fail
                go_roundg (es.length - (i + 1))
                case measure => omega
                case rel => exact ⟨i + 1, by omega, Nat.le_refl _, by go_num, HBl.out.trans (HBp.out.mono HBl.out.size)⟩
      · have hlt' : ¬ (i : Int) < (es.length : Int) := by omega
        have HB0 := hid hBR
        unfold noB at HNG HNE HNO HNF
        clear hBR
        go_wp2_with fail
        refine (HNG.out _ HB0.out).mono ?_
        rintro e v1 ⟨rfl, hc1⟩
        have HV1 := hid (HB0.out.trans (hc1.mono HB0.out.size))
        clear hc1
        go_wp2_with fail
        refine (HNE.out _ HV1.out).mono ?_
        rintro e v2 ⟨ea, ec, rfl, hc2⟩
        have HV2 := hid (HV1.out.trans (hc2.mono HV1.out.size))
        clear hc2
        go_wp2_with fail
        refine (HNO.out _ HV2.out).mono ?_
        rintro e v3 ⟨rfl, hc3⟩
        have HV3 := hid (HV2.out.trans (hc3.mono HV2.out.size))
        clear hc3
        go_wp2_with fail
        refine (HNF.out _ HV3.out).mono ?_
        rintro e v4 ⟨rfl, hc4⟩
        have HV4 := hid (HV3.out.trans (hc4.mono HV3.out.size))
        clear hc4
        go_wp2_with fail
        go_ret
        exact ⟨rfl, HV4.out⟩
end Go.Proofs.Ytdnpbhijjmlecaa

