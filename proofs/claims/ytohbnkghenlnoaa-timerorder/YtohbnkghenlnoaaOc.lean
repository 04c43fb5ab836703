/- TimerOrder: what follows the timers' setting. -/
import Derived.Test.YtohbnkghenlnoaaOrd
import Derived.Test.YtohbnkghenlnoaaOm
import Derived.Deep.RegionHeld
import Derived.Deep.CutRange
import Derived.Deep.DeepCutAuto
namespace Go.Proofs.Ytohbnkghenlnoaa
open Go.RowKit Go.Maps
set_option maxRecDepth 100000
set_option linter.unusedSimpArgs false
set_option linter.unusedVariables false

noncomputable def body5 : Code := Try.f5.body.getD .skip
/-- What follows the first n parts. -/
def tailAt : Nat → Code → Code
  | 0, c => c
  | n + 1, .seq _ b => tailAt n b
  | _ + 1, c => c
set_option maxHeartbeats 8000000 in
theorem ord_c {w w1 w2' : World} {S : Nat → Prop} {a m cap0 cap1 cb : Nat} {s : List Tm} {so po ob : Option Addr} {ops : List OpV} {steps : List Int} {y2 y3 y4 y5 y8 y10 y11 y12 y13 y14 y15 y16 y17 y18 y19 y20 y21 y22 y23 y24 y25 y26 y27 y28 y29 y30 y31 y32 y33 y34 y35 y36 y37 y38 y39 y40 y41 y42 y43 y44 y45 y46 y47 y48 y49 y50 y51 y52 y53 y54 y55 y56 y57 y58 y59 y60 y61 y62 y63 y64 y65 y66 y67 y68 y69 y70 y71 y72 y73 y74 y75 y76 y77 y78 y79 y80 y81 y82 y83 y84 y85 y86 y87 y88 y89 y90 y91 y92 y93 y94 y95 y96 y97 y98 y99 y100 y101 y102 y103 y104 y105 y106 y107 y108 y109 y110 y111 y112 y113 y114 y115 y116 y117 y118 y119 y120 y121 y122 y123 y124 y125 y126 y127 y128 y129 y130 y131 y132 y133 y134 y135 y136 y137 y138 y139 y140 y141 y142 y143 y144 y145 y146 y147 y148 y149 y150 y151 y152 y153 y154 y155 y156 y157 y158 y159 y160 y161 y162 y163 y164 y165 y166 y167 y168 y169 y170 y171 y172 y173 y174 y175 y176 y177 y178 y179 y180 y181 y182 y183 y184 y185 y186 y187 y188 y189 y190 y191 y192 y193 y194 y195 y196 y197 : Value} (hops : OpsAt w so ops) (hlen : ops.length ≤ maxLen) (hsteps : RowAt w po steps) (hlen2 : steps.length ≤ maxLen) (hm1 : m ≤ ops.length) (hm3 : m ≤ 300)
    (hTA : TA w1 S a s) (hS0 : ∀ k, S k → w.heap.size ≤ k) (hB1 : Below w.heap.size w w1) (hOrd0 : Ord ops s m) (hB2 : Below w1.heap.size w1 w2') (hrow2 : w2'.ownsRow w1.heap.size 3 1 (.slice ob m cb) m (cellsI (wantL ops s m))) :
    Code.wp Try.prog (tailAt 8 body5) (bodyPost Try.prog Try.f5 (fun e w' => e = .returned (.bool true) ∧ Below w.heap.size w w')) ⟨#[.slice so ops.length cap0, .slice po steps.length cap1, y2, y3, y4, y5, .pointer (some ⟨a, 0, none⟩), .int .i64 (s.length : Int), y8, .slice ob m cb, y10, y11, y12, y13, y14, y15, y16, y17, y18, y19, y20, y21, y22, y23, y24, y25, y26, y27, y28, y29, y30, y31, y32, y33, y34, y35, y36, y37, y38, y39, y40, y41, y42, y43, y44, y45, y46, y47, y48, y49, y50, y51, y52, y53, y54, y55, y56, y57, y58, y59, y60, y61, y62, y63, y64, y65, y66, y67, y68, y69, y70, y71, y72, y73, y74, y75, y76, y77, y78, y79, y80, y81, y82, y83, y84, y85, y86, y87, y88, y89, y90, y91, y92, y93, y94, y95, y96, y97, y98, y99, y100, y101, y102, y103, y104, y105, y106, y107, y108, y109, y110, y111, y112, y113, y114, y115, y116, y117, y118, y119, y120, y121, y122, y123, y124, y125, y126, y127, y128, y129, y130, y131, y132, y133, y134, y135, y136, y137, y138, y139, y140, y141, y142, y143, y144, y145, y146, y147, y148, y149, y150, y151, y152, y153, y154, y155, y156, y157, y158, y159, y160, y161, y162, y163, y164, y165, y166, y167, y168, y169, y170, y171, y172, y173, y174, y175, y176, y177, y178, y179, y180, y181, y182, y183, y184, y185, y186, y187, y188, y189, y190, y191, y192, y193, y194, y195, y196, y197], []⟩ w2' := by
  have hlen' : ops.length ≤ 9223372036854775807 := by unfold maxLen at hlen; exact hlen
  have hlen2' : steps.length ≤ 9223372036854775807 := by unfold maxLen at hlen2; exact hlen2
  have HOps : Hid (∀ i (h : i < ops.length), ops[i].ok ∧ ∃ b off, so = some ⟨b, off, none⟩ ∧ b < w.heap.size ∧ ∀ W, Below w.heap.size w W → OpCells W b (off + i * 3) ops[i]) := fun i hi => by
    rcases hops with h | ⟨b, off, e, hb, hc⟩
    · rw [h] at hi; simp at hi
    · exact ⟨(hc i hi).1, b, off, e, hb, fun W hW => ⟨(hW.cell hb).trans (hc i hi).2.1, (hW.cell hb).trans (hc i hi).2.2.1, (hW.cell hb).trans (hc i hi).2.2.2⟩⟩
  have HSt : Hid (∀ i (h : i < steps.length), I64 steps[i] ∧ ∃ b off, po = some ⟨b, off, none⟩ ∧ b < w.heap.size ∧ ∀ W, Below w.heap.size w W → W.cell? ⟨b, off + i, none⟩ = some (.int .i64 steps[i])) := fun i hi => by
    rcases hsteps with h | ⟨b, off, e, hb, hc⟩
    · rw [h] at hi; simp at hi
    · exact ⟨(hc i hi).1, b, off, e, hb, fun W hW => (hW.cell hb).trans (hc i hi).2⟩
  clear hops hlen hsteps hlen2
  have hkeys := hTA.keys
  have hsorted := hTA.sorted
  have hOrd := hid hOrd0
  have HTA := hid hTA
  have HB1 := hid hB1
  have HS0 := hid hS0
  have hslen := hTA.len
  have HK := hid (And.intro hkeys hsorted)
  have HRng : Hid (∀ x ∈ s, I64 x.key) := by
    obtain ⟨_, _, _, _, hq, _, hp, _⟩ := hTA
    exact fun x hx => hq.rng x (hp.mem_iff.2 hx)
  clear hTA hS0 hB1 hkeys hsorted hOrd0
  obtain ⟨L, hL⟩ : ∃ L, L = w2'.heap.size := ⟨_, rfl⟩
  obtain ⟨W2, hW2⟩ : ∃ W2, W2 = w2'.alloc (.cells #[.int .i64 0, .int .i64 (-1)] 44) := ⟨_, rfl⟩
  have hnSL : ¬ S L := fun h => by have := HTA.out.below L h; have := hB2.size; omega
  have hbW : Below w1.heap.size w1 W2 := by rw [hW2]; exact hB2.alloc hB2.size _
  have HOM : Hid (OM W2 S L a s 0 0 W2) := ⟨by rw [List.drop_zero]; exact HTA.out.under hbW, .refl _ _, by rw [hW2, hL]; show (w2'.heap.push _)[w2'.heap.size]? = _; simp [lastT]⟩
  have hw2L : W2.heap.size = L + 1 := by rw [hW2, hL]; simp
  have HWant : Hid (∀ wr d e, OM W2 S L a s d e wr → 0 < m → ∃ bw, ob = some ⟨bw, 0, none⟩ ∧ ∀ j (hm : j < m) (h : j < ops.length), wr.cell? ⟨bw, j, none⟩ = some (.int .i64 (atL s ops[j].key))) := fun wr d e hm h0 => by
    rcases hrow2.2 with ⟨_, h1⟩ | ⟨b, cap', cur, e0, hb0, hg0, _⟩
    · omega
    · have ho : ob = some ⟨b, 0, none⟩ := by simp only [Value.slice.injEq] at e0; exact e0.1
      subst ho
      have hbl := (Array.getElem?_eq_some_iff.1 hg0).1
      refine ⟨b, rfl, fun j hjm hj => hm.cell (by omega) (fun hs => by have := HTA.out.below b hs; omega) (by omega) ?_⟩
      have hc : w2'.cell? ⟨b, j, none⟩ = some (.int .i64 (atL s ops[j].key)) := by
        rw [hrow2.cellAt j (by omega)]
        simp [cellsI, wantL, List.getElem?_take, hjm, hj]
      rw [hW2]
      exact (((Below.refl w2'.heap.size w2').alloc (Nat.le_refl _) _).cell (p := ⟨b, j, none⟩) hbl).trans hc
  have HKey : Hid (∀ wr d e, OM W2 S L a s d e wr → ∀ j (h : j < ops.length), ∃ b off, so = some ⟨b, off, none⟩ ∧ wr.cell? ⟨b, off + j * 3 + 1, none⟩ = some (.int .i64 ops[j].key)) := fun wr d e hm j hj => by
    obtain ⟨_, b, off, e1, hb, hc⟩ := HOps.out j hj
    have hb1 := HB1.out.size
    exact ⟨b, off, e1, hm.cell (by have := hbW.size; omega) (fun hs => by have := HS0.out b hs; omega) (by have := hB2.size; omega) (hc W2 (HB1.out.trans (hbW.mono hb1))).2.1⟩
  have HStep : Hid (∀ wr d e, OM W2 S L a s d e wr → ∀ j (h : j < steps.length), I64 steps[j] ∧ ∃ b off, po = some ⟨b, off, none⟩ ∧ wr.cell? ⟨b, off + j, none⟩ = some (.int .i64 steps[j])) := fun wr d e hm j hj => by
    obtain ⟨hI, b, off, e1, hb, hc⟩ := HSt.out j hj
    have hb1 := HB1.out.size
    exact ⟨hI, b, off, e1, hm.cell (by have := hbW.size; omega) (fun hs => by have := HS0.out b hs; omega) (by have := hB2.size; omega) (hc W2 (HB1.out.trans (hbW.mono hb1)))⟩
  have HFin : Hid (∀ wr d e, OM W2 S L a s d e wr → Below w.heap.size w wr) := fun wr d e hm =>
    below_keeps (S := fun k => S k ∨ k = L) (HB1.out.trans (hbW.mono HB1.out.size)) (fun k hk => hk.elim (HS0.out k) (fun e => by have := hB2.size; have := HB1.out.size; omega)) hm.keep
  have HW2 := hid hW2
  clear hB2 hrow2 HOps HSt hbW hW2
  conv => arg 2; whnf
  go_wp2
  rw [← hL, ← HW2.out]
  clear HW2 hL
  go_loopg [11, 13, 14] 201 (fun kx s11 s13 si wr => ∃ (i d nowN : Nat), i ≤ 200 ∧ 201 - i ≤ kx ∧ s11 = .int .i64 (nowN : Int) ∧ s13 = .int .i64 (d : Int) ∧ si = .int .i64 (i : Int) ∧ d ≤ s.length ∧ nowN ≤ 1000 + 50 * i ∧ (i ≤ steps.length ∧ i < 200 ∨ d = s.length) ∧ Hid (OM W2 S L a s d d wr))
  case atStart => exact ⟨0, 0, 0, by omega, by omega, rfl, rfl, rfl, Nat.zero_le _, by omega, .inl ⟨by omega, by omega⟩, HOM⟩
  case round =>
    obtain ⟨i, d, nowN, hi, hkx3, rfl, rfl, rfl, hd, hnow, hor, HM⟩ := hrel
    obtain ⟨w3', hw3⟩ : ∃ w3' : World, w3' = wr := ⟨_, rfl⟩
    subst hw3
    by_cases hgo3 : i ≤ steps.length ∧ i < 200
    · have g1 : (i : Int) ≤ (steps.length : Int) := by omega
      have g2 : (i : Int) < 200 := by omega
      obtain ⟨B, hB⟩ : ∃ B, decide (i < steps.length) = B := ⟨_, rfl⟩
      have HB := hid hB
      go_upto_if 95 with fail
      go_cut [11] from 82 to 184 (fun s11 wx => ∃ n1 : Nat, s11 = .int .i64 (n1 : Int) ∧ Hid (n1 ≤ 1049 + 50 * i ∧ OM W2 S L a s d d wx))
      case first =>
        cases B with
        | false =>
          go_wp2_with fail
          go_meet
          exact ⟨nowN, rfl, by omega, HM.out⟩
        | true =>
          have hil : i < steps.length := by simpa using HB.out
          obtain ⟨hI, bp, offp, rfl, hcp⟩ := HStep.out w3' _ _ HM.out i hil
          obtain ⟨p, hp, HPk⟩ : ∃ p : Nat, p < 50 ∧ Hid (∀ wx, Calls Try.prog 8 #[.int .i64 steps[i], .int .i64 50] wx fun e w' => e = .returned (.int .i64 (p : Int)) ∧ w' = wx) := by
            have hr := pickI_range steps[i] 50 (by decide)
            refine ⟨(pickI steps[i] 50).toNat, by omega, fun wx => ?_⟩
            have := pick_any steps[i] 50 wx hI (by decide) (by decide)
            rwa [show ((pickI steps[i] 50).toNat : Int) = pickI steps[i] 50 by omega]
          have hilz : (i : Int) < (steps.length : Int) := by omega
          generalize steps[i] = st at *
          go_wp2_with fail
          refine (HPk.out _).mono ?_
          rintro e w3 ⟨rfl, h⟩
          have h' := h.symm
          subst h'
          clear h
          go_wp2_with fail
          go_meet
          exact ⟨nowN + p, by go_num, by omega, HM.out⟩
      case rest =>
      obtain ⟨n1, rfl, HM1⟩ := hcut
      generalize wc = w4' at *
      have hn1 := HM1.out.1
      obtain ⟨E1, hE1⟩ : ∃ E1, ((i : Int) == (steps.length : Int)) = E1 := ⟨_, rfl⟩
      obtain ⟨E2, hE2⟩ : ∃ E2, ((i : Int) == 199) = E2 := ⟨_, rfl⟩
      have HE : Hid ((E1 || E2) = decide (i = steps.length ∨ i = 199)) := by
        show _ = _
        rw [← hE1, ← hE2, Bool.eq_iff_iff]
        simp
        omega
      go_upto_region 26 with fail
      go_cut [110] from 82 to 184 (fun s110 wx => s110 = .bool (E1 || E2) ∧ Hid (OM W2 S L a s d d wx))
      case first =>
        cases E1 with
        | true =>
          go_wp2_with fail
          go_meet
          exact ⟨rfl, HM1.out.2⟩
        | false =>
          go_wp2_with fail
          go_meet
          exact ⟨rfl, HM1.out.2⟩
      case rest =>
      obtain ⟨rfl, HM2⟩ := hcut
      generalize wc = w5' at *
      rw [HE.out]
      obtain ⟨B2, hB2⟩ : ∃ B2, decide (i = steps.length ∨ i = 199) = B2 := ⟨_, rfl⟩
      rw [hB2]
      have HB2 := hid hB2
      clear hB2 HE hE1 hE2 HM1 HM
      go_upto_if 110 with fail
      go_cut [11] from 82 to 184 (fun s11 wx => ∃ nw : Nat, s11 = .int .i64 (nw : Int) ∧ Hid (nw ≤ 1000 + 50 * (i + 1) ∧ (i + 1 ≤ steps.length ∧ i + 1 < 200 ∨ nw = 1000) ∧ OM W2 S L a s d d wx))
      case first =>
        cases B2 with
        | false =>
          have hb := of_decide_eq_false HB2.out
          go_wp2_with fail
          go_meet
          exact ⟨n1, rfl, by omega, .inl ⟨by omega, by omega⟩, HM2.out⟩
        | true =>
          go_wp2_with fail
          go_meet
          exact ⟨1000, rfl, by omega, .inr rfl, HM2.out⟩
      case rest =>
      obtain ⟨nw, rfl, HM3⟩ := hcut
      generalize wc = w6' at *
      have HDue := hid (HM3.out.2.2.due hnSL (nw : Int))
      have hnw := HM3.out.1
      go_wp2_with fail
      refine HDue.out.mono ?_
      rintro e w4 ⟨oa4, c4, rfl, h4⟩
      have H4 := hid h4
      clear h4 HDue
      go_wp2_with fail
      obtain ⟨dn, hdn⟩ : ∃ dn, dn = (dueL (s.drop d) (nw : Int)).length := ⟨_, rfl⟩
      have HDn := hid hdn
      rw [← hdn] at H4
      rw [← hdn]
      clear hdn
      have HDs : Hid (d + dn ≤ s.length) := by
        show _ ≤ _
        rw [HDn.out]
        have := (List.takeWhile_prefix (p := fun x : Tm => decide (x.tick ≤ (nw : Int))) (l := s.drop d)).length_le
        rw [List.length_drop] at this
        unfold dueL
        omega
      have HOr : Hid ((i + 1) ≤ steps.length ∧ (i + 1) < 200 ∨ d + dn = s.length) := by
        rcases HM3.out.2.1 with h | h
        · exact .inl h
        · refine .inr ?_
          rw [HDn.out, h]
          have h1 := (due_split 1000 (s.drop d) (s.drop d).length (Nat.le_refl _) (fun x hx => by have := (hOrd.out.tick x (List.mem_of_mem_drop (List.mem_of_mem_take hx))).2; omega) (fun x hx => by simp at hx)).1
          rw [List.take_length] at h1
          show d + (dueL (s.drop d) 1000).length = _
          rw [h1, List.length_drop]
          omega
      have HAtK : Hid (∀ k, k < dn → d + k < s.length ∧ (g s (d + k)).tick ≤ (nw : Int)) := fun k hk => by rw [HDn.out] at hk; exact ⟨(due_at hk).1, (due_at hk).2.2⟩
      clear HM3 HM2
      go_loopg [13, 16] dn (fun kx s13 s16 wq => ∃ k : Nat, k ≤ dn ∧ dn - k ≤ kx ∧ s13 = .int .i64 ((d + k : Nat) : Int) ∧ s16 = .int .i64 (k : Int) ∧ Hid (OM W2 S L a s (d + dn) (d + k) wq ∧ DueRow S L oa4 dn (fun k => (g s (d + k)).key) wq))
      case atStart => exact ⟨0, Nat.zero_le _, by omega, rfl, rfl, H4.out.1, H4.out.2⟩
      case round =>
        obtain ⟨k, hk, hkx4, rfl, rfl, HQ⟩ := hrel
        by_cases hkl : k < dn
        · have hdummy := hkl
          have hkz : (k : Int) < (dn : Int) := by omega
          obtain ⟨w4, hw4⟩ : ∃ w4 : World, w4 = wr := ⟨_, rfl⟩
          subst hw4
          obtain ⟨hdk, hxn⟩ := HAtK.out k hkl
          obtain ⟨l1, l2, l3⟩ := lastT_next HK.out.2 hOrd.out.tick hdk
          have c0 := HQ.out.1.c0
          have c1 := HQ.out.1.c1
          have f0 := HQ.out.1.f 0
          have f1 := HQ.out.1.f 1
          obtain ⟨b4, rfl, _, _, _, hc4⟩ := HQ.out.2 (by omega)
          have hrk : w4.cell? ⟨b4, k, none⟩ = some (.int .i64 (g s (d + k)).key) := hc4 k hkl
          have hx0 := (hOrd.out.tick _ (g_mem hdk)).1
          have hxm := g_mem hdk
          have hfa : foundI ops (g s (d + k)) m = (g s (d + k)).tick := foundI_all hOrd.out hxm
          have hatx : atL s (g s (d + k)).key = (g s (d + k)).tick := atL_mem HK.out.1 hxm
          have HGone : Hid (∀ n, Calls Try.prog 16 #[.pointer (some ⟨a, 0, none⟩), .int .i64 (g s (d + k)).key] (w4.drewN n) fun e w' => e = .returned (.int .i64 (-1)) ∧ w' = w4.drewN n) := fun n => (HQ.out.1.drewN n).isGone HK.out.1 hdk (by omega) (HRng.out _ hxm)
          have HTold : Hid (∀ n, OM W2 S L a s (d + dn) (d + (k + 1)) (((w4.drewN n).setCell ⟨L, 0, none⟩ (.int .i64 (g s (d + k)).key)).setCell ⟨L, 1, none⟩ (.int .i64 (g s (d + k)).tick)) ∧ DueRow S L (some ⟨b4, 0, none⟩) dn (fun k => (g s (d + k)).key) (((w4.drewN n).setCell ⟨L, 0, none⟩ (.int .i64 (g s (d + k)).key)).setCell ⟨L, 1, none⟩ (.int .i64 (g s (d + k)).tick))) := fun n =>
            ⟨(HQ.out.1.drewN n).told hnSL l3, DueRow.told (w := w4.drewN n) HQ.out.2 _ _⟩
          have HKeyQ := hid (HKey.out w4 _ _ HQ.out.1)
          have HWantQ := hid (HWant.out w4 _ _ HQ.out.1)
          have HL := hid (And.intro l1 l2)
          have HFa := hid (And.intro hfa hatx)
          clear l1 l2 l3 hc4 HQ hfa hatx hxm
          generalize g s (d + k) = x at *
          generalize lastT s (d + k) = la at *
          go_wp2_with fail
          go_loopg [17, 18] m (fun kx s17 s18 wv => ∃ j : Nat, j ≤ m ∧ m - j ≤ kx ∧ s17 = .int .i64 (foundI ops x j) ∧ s18 = .int .i64 (j : Int) ∧ ∃ n, wv = w4.drewN n)
          case atStart => exact ⟨0, Nat.zero_le _, by omega, by simp [foundI], rfl, 0, rfl⟩
          case round =>
            obtain ⟨j, hj, hkx5, rfl, rfl, n, rfl⟩ := hrel
            by_cases hjm : j < m
            · have hjl : j < ops.length := by omega
              have hjz : (j : Int) < (m : Int) := by omega
              obtain ⟨bs, offs, rfl, hks⟩ := HKeyQ.out j hjl
              obtain ⟨bw, rfl, hws⟩ := HWantQ.out (by omega)
              have hwj := hws j hjm hjl
              have hfn := foundI_next (x := x) hjl
              by_cases he : ops[j].key = x.key
              · rw [if_pos he] at hfn
                rw [he, HFa.out.2] at hwj
                rw [he] at hks
                have HFn := hid hfn
                clear hfn hws he
                generalize foundI ops x j = fj at *
                go_wp2_with fail
                go_quiet (fail)
                go_wp2_with fail
                go_roundg (m - (j + 1))
                case measure => omega
                case rel => exact ⟨j + 1, by omega, Nat.le_refl _, by rw [HFn.out], by go_num, _, rfl⟩
              · rw [if_neg he] at hfn
                have heq5 : (ops[j].key == x.key) = false := by simpa using he
                have HFn := hid hfn
                clear hfn hws hwj
                generalize ops[j].key = kj at *
                generalize foundI ops x j = fj at *
                go_wp2_with fail
                go_quiet (fail)
                go_wp2_with fail
                go_roundg (m - (j + 1))
                case measure => omega
                case rel => exact ⟨j + 1, by omega, Nat.le_refl _, by rw [HFn.out], by go_num, _, rfl⟩
            · have hje : j = m := by omega
              subst hje
              have hjz : ¬ ((j : Int) < (j : Int)) := by omega
              rw [HFa.out.1]
              have hq0 : decide (x.tick < 0) = false := by simpa using hx0
              have hq1 : decide ((nw : Int) < x.tick) = false := by simpa using hxn
              have hq2 : decide (x.tick < la.tick) = false := by simpa using HL.out.1
              by_cases heq : x.tick = la.tick
              · have hq3 : decide (x.key ≤ la.key) = false := by simpa using HL.out.2 heq
                have hq5 : (x.tick == la.tick) = true := by simpa using heq
                clear heq
                go_wp2_with fail
                go_quiet ((go_at_call 16; exact (HGone.out _).mono fun e w' h => ⟨h.1, _, h.2⟩))
                go_wp2_with fail
                go_roundg (dn - (k + 1))
                case measure => omega
                case rel => exact ⟨k + 1, by omega, Nat.le_refl _, by go_num, by go_num, HTold.out _⟩
              · have hq4 : (x.tick == la.tick) = false := by simpa using heq
                clear heq
                go_wp2_with fail
                go_quiet ((go_at_call 16; exact (HGone.out _).mono fun e w' h => ⟨h.1, _, h.2⟩))
                go_wp2_with fail
                go_roundg (dn - (k + 1))
                case measure => omega
                case rel => exact ⟨k + 1, by omega, Nat.le_refl _, by go_num, by go_num, HTold.out _⟩
        · have hkd : k = dn := by omega
          subst hkd
          have hkz : ¬ ((k : Int) < (k : Int)) := by omega
          go_wp2_with fail
          go_roundg (201 - (i + 1))
          case measure => omega
          case rel => exact ⟨i + 1, d + k, nw, by omega, Nat.le_refl _, by go_num, by go_num, by go_num, HDs.out, by omega, HOr.out, HQ.out.1⟩
    · have hds : d = s.length := by omega
      subst hds
      have HTa : Hid (TA w3' S a []) := by have := HM.out.ta; rw [List.drop_length] at this; exact this
      have HL0 := hid (tlen_any HTa.out)
      have HN0 := hid (next_any HTa.out)
      have HF := hid (HFin.out _ _ _ HM.out)
      clear HM HTa
      by_cases g1 : i ≤ steps.length
      · have g1z : (i : Int) ≤ (steps.length : Int) := by omega
        have g2z : ¬ (i : Int) < 200 := by omega
        go_wp2_with (first
          | (go_at_call 18; refine HL0.out.mono ?_; rintro e w7 ⟨rfl, h⟩; have h' := h.symm; subst h')
          | (go_at_call 19; refine HN0.out.mono ?_; rintro e w7 ⟨rfl, h⟩; have h' := h.symm; subst h'))
        go_ret
        exact ⟨rfl, HF.out⟩
      · have g1z : ¬ (i : Int) ≤ (steps.length : Int) := by omega
        go_wp2_with (first
          | (go_at_call 18; refine HL0.out.mono ?_; rintro e w7 ⟨rfl, h⟩; have h' := h.symm; subst h')
          | (go_at_call 19; refine HN0.out.mono ?_; rintro e w7 ⟨rfl, h⟩; have h' := h.symm; subst h'))
        go_ret
        exact ⟨rfl, HF.out⟩
end Go.Proofs.Ytohbnkghenlnoaa
