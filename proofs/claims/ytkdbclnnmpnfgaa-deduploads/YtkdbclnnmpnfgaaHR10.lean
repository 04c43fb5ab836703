/- The document's Note, walked. -/
import Derived.Test.YtkdbclnnmpnfgaaHR9
import Derived.Test.YtkdbclnnmpnfgaaHRefright
import Derived.Deep.QuietTactic
import Derived.BigQuiet
import Derived.Deep.CutRange
namespace Go.Proofs.Ytkdbclnnmpnfgaa
open Go.RowKit Go.Maps
set_option maxRecDepth 100000
set_option linter.unusedSimpArgs false
set_option linter.unusedVariables false

/-- What a call of the document's leaves of its table, also where it leaves the row as it was. -/
def RF (w w' : World) (r : Nat) (v : Value) (ms : List Mk) : Prop := ∃ v', RT w' r v' ms ∧ (∀ k, v'.ownBlock = some k → w.heap.size ≤ k ∨ v.ownBlock = some k) ∧ Keeps (fun k => k = r) w w'
theorem RA.rf {w w' : World} {r : Nat} {v : Value} {ms : List Mk} (h : RA w w' r ms) : RF w w' r v ms := by
  obtain ⟨v', h1, h2, h3⟩ := h
  exact ⟨v', h1, fun k hk => .inl (h2 k hk), h3⟩
theorem RF.same {w w' : World} {r : Nat} {v : Value} {ms : List Mk} (h : RT w r v ms) (hb : Below w.heap.size w w') : RF w w' r v ms :=
  ⟨v, h.under hb, fun k hk => .inr hk, Keeps.of_below hb⟩
def markOf (b : Bat) : Mk := (b.pid, ntOf b)
def noteM (ms : List Mk) (b : Bat) : List Mk :=
  if b.pid = 0 ∨ rightL b ≠ 0 then ms
  else if folB ((ofM b.pid ms).map (·.2)) (ntOf b) = true then insM (markOf b) ms else ms
theorem insM_len (x : Mk) : ∀ ms : List Mk, (insM x ms).length = ms.length + 1
  | [] => rfl
  | y :: r => by
    unfold insM
    split
    · rfl
    · simp only [List.length_cons, insM_len x r]
theorem ins_no {x y : Mk} {ms : List Mk} {k : Nat} (h : ms[k]? = some y) (hn : ¬ x.1 < y.1) : insM x (ms.drop k) = y :: insM x (ms.drop (k + 1)) := by
  obtain ⟨h1, h2⟩ := List.getElem?_eq_some_iff.1 h
  rw [List.drop_eq_getElem_cons h1, h2, insM, if_neg hn]
theorem ins_yes {x y : Mk} {ms : List Mk} {k : Nat} (h : ms[k]? = some y) (hn : x.1 < y.1) : insM x (ms.drop k) = x :: y :: ms.drop (k + 1) := by
  obtain ⟨h1, h2⟩ := List.getElem?_eq_some_iff.1 h
  rw [List.drop_eq_getElem_cons h1, h2, insM, if_pos hn]
theorem mdrop_at {y : Mk} {ms : List Mk} {k : Nat} (h : ms[k]? = some y) : ms.drop k = y :: ms.drop (k + 1) := by
  obtain ⟨h1, h2⟩ := List.getElem?_eq_some_iff.1 h
  rw [List.drop_eq_getElem_cons h1, h2]
def restM (pl : Bool) (x : Mk) (l : List Mk) : List Mk := if pl = true then l else insM x l

set_option maxHeartbeats 6400000 in
theorem rnote_any {w : World} {r : Nat} {v : Value} {ms : List Mk} (h : RT w r v ms) (bt : Bat) (hL : LOk ((ofM bt.pid ms).map (·.2))) (a : Option Addr) (cap : Nat) (hr : Recs w (.slice a bt.recs.length cap) bt.recs) (hi : bt.ints) (hc : ms.length < 100000) :
    Calls Try.prog 13 #[.pointer (some ⟨r, 0, none⟩), .agg #[.int .i64 bt.base, .int .i64 bt.epoch, .int .i64 bt.pid, .int .i64 bt.pidEpoch, .int .i64 bt.seq, .slice a bt.recs.length cap]] w fun e w' => e = .returned (.tuple #[]) ∧ RF w w' r v (noteM ms bt) := by
  have HT := hid h
  have HX0 := hid (Boxed.laid w (.cells #[.int .i64 bt.base, .int .i64 bt.epoch, .int .i64 bt.pid, .int .i64 bt.pidEpoch, .int .i64 bt.seq, .slice a bt.recs.length cap] 33))
  have hb0 := HX0.out.below
  have HR := hid (rright_any bt a cap ⟨by obtain ⟨a', c', e, ha⟩ := hr.shape; exact ⟨a', c', e, ha.under hb0⟩, hr.ok, hr.len⟩ hi)
  have hlen := hr.len
  unfold maxLen at hlen
  have hoflen : (ofM bt.pid ms).length ≤ 100000 := Nat.le_trans (List.length_filter_le _ _) h.few
  have HOf : Hid (∀ W, Below w.heap.size w W → Calls Try.prog 31 #[.pointer (some ⟨r, 0, none⟩), .int .i64 bt.pid] W fun e w' => ∃ v', e = .returned v' ∧ ML w' W.heap.size v' (ofM bt.pid ms) ∧ Below W.heap.size W w') := fun W hb => of_any (h.under hb) bt.pid
  have HTop : Hid (∀ (B : Nat) (w1 : World) (v' : Value), ML w1 B v' (ofM bt.pid ms) → Calls Try.prog 32 #[v'] w1 fun e w' => TopPost w1 w' (ofM bt.pid ms) e) := fun B w1 v' hm => top_any hm hL hoflen
  have HFol : Hid (NtOk (ntOf bt) → folB ((ofM bt.pid ms).map (·.2)) (ntOf bt) = !((decide (0 < (ofM bt.pid ms).length) && decide (bt.base ≤ lastOff (ofM bt.pid ms))) || decide (bt.pidEpoch < tE (ofM bt.pid ms)) || (decide (bt.pidEpoch = tE (ofM bt.pid ms)) && decide (bt.seq < nE (tE (ofM bt.pid ms)) (ofM bt.pid ms))))) := fun hx => doc_fol _ hL (ntOf bt) hx
  have HTe : Hid ((ofM bt.pid ms).length = 0 → tE (ofM bt.pid ms) = -1) := fun e => by rw [List.eq_nil_of_length_eq_zero e]; rfl
  have HLo : Hid (∀ d y, (ofM bt.pid ms).length = d + 1 → (ofM bt.pid ms)[d]? = some y → lastOff (ofM bt.pid ms) = y.2.off) := fun d y e hy => by unfold lastOff; rw [e]; simp only [Nat.add_sub_cancel]; rw [hy]
  have c0 := h.c0
  have hrl := h.lt
  obtain ⟨oa, cp, hv, hcap, hcm, hnn, hoa⟩ := h.row.shape
  have HV := hid hv
  clear hv
  obtain ⟨j0, hj0, hz0, hz1, hz2⟩ := info70
  have hin := hi
  obtain ⟨i0, i1, i2, i3, i4⟩ := hin
  obtain ⟨PP, hPP⟩ : ∃ PP, noteM ms bt = PP := ⟨_, rfl⟩
  rw [hPP]
  have HPP := hid hPP
  obtain ⟨rv, hrv⟩ : ∃ rv, rightL bt = rv := ⟨_, rfl⟩
  have HRV := hid hrv
  rw [hrv] at HR
  have HNt : Hid (bt.pid ≠ 0 → rv = 0 → NtOk (ntOf bt) ∧ 1 ≤ bt.pid ∧ bt.pid ≤ 1000000000) := fun e1 e2 => right_nt (hrv.trans e2) e1
  clear h hL hb0 hr hi hPP hrv hoflen
  go_enter Try.func13, Try.ntmps13
  go_wp2_with fail
  refine HR.out.mono ?_
  rintro e w1 ⟨rfl, hb1⟩
  have HX1 := hid (HX0.out.next hb1)
  clear hb1 HR HX0
  obtain ⟨z0, z1, z2, z3, z4, z5⟩ := six HX1.out
  by_cases hp0 : bt.pid = 0
  · have HF : Hid (ms = PP) := by show _ = _; rw [← HPP.out]; unfold noteM; rw [if_pos (.inl hp0)]
    rw [hp0] at z2
    go_wp2_with fail
    exact bodyPost_ret (v := .tuple #[]) (by simp [results, Try.results13, go_sem]) rfl ⟨rfl, by rw [← HF.out]; exact RF.same HT.out HX1.out.below⟩
  have hp1 : (bt.pid == 0) = false := by simpa using hp0
  by_cases hrt : rv = 0
  case neg =>
    have HF : Hid (ms = PP) := by show _ = _; rw [← HPP.out]; unfold noteM; rw [if_pos (.inr (by rw [HRV.out]; exact hrt))]
    have hr1 : (rv != 0) = true := by simpa using hrt
    go_wp2_with fail
    exact bodyPost_ret (v := .tuple #[]) (by simp [results, Try.results13, go_sem]) rfl ⟨rfl, by rw [← HF.out]; exact RF.same HT.out HX1.out.below⟩
  subst hrt
  obtain ⟨hnt, hpid⟩ := HNt.out hp0 rfl
  have HFo := hid (HFol.out hnt)
  have HPn : Hid (PP = if folB ((ofM bt.pid ms).map (·.2)) (ntOf bt) = true then insM (markOf bt) ms else ms) := by show _ = _; rw [← HPP.out]; unfold noteM; rw [if_neg (by have := HRV.out; simp [hp0, this])]
  have n1 := hnt.ep; have n2 := hnt.n; have n3 := hnt.seq; have n4 := hnt.off
  simp only [ntOf] at n1 n2 n3 n4
  have HO1 := hid (HOf.out w1 HX1.out.below)
  clear hnt HFol HOf HPP HNt
  go_wp2_with fail
  refine HO1.out.mono ?_
  rintro e w2 ⟨v2, rfl, hm2, hb2⟩
  have HM2 := hid hm2
  have HX2 := hid (HX1.out.next hb2)
  have HTo := hid (HTop.out _ _ _ hm2)
  obtain ⟨oa2, cap2, hv2, hcl2, hcm2, hnn2, hoa2⟩ := hm2.shape
  have hB2 := hb2.size
  subst hv2
  clear hm2 hb2 HO1 HTop HX1 z0 z1 z2 z3 z4 z5
  go_wp2_with fail
  refine HTo.out.mono ?_
  rintro e w3 ⟨a3, c3, rfl, _, hb3⟩
  have HX3 := hid (HX2.out.next hb3)
  have HM3 := hid (HM2.out.under hb3)
  clear hb3 HTo HX2 HM2
  obtain ⟨z0, z1, z2, z3, z4, z5⟩ := six HX3.out
  go_upto_region 5 with fail
  have HKp : Hid (∀ W', Below w3.heap.size w3 W' → ∀ p u, w3.cell? p = some u → W'.cell? p = some u) := fun W' hb p u hu => kept_cell hb hu
  obtain ⟨FO, hFO⟩ : ∃ FO, folB ((ofM bt.pid ms).map (·.2)) (ntOf bt) = FO := ⟨_, rfl⟩
  rw [hFO] at HFo HPn
  clear hFO
  have HA0 : Hid ((ofM bt.pid ms).length = 0 → ¬ bt.pidEpoch < tE (ofM bt.pid ms) ∧ ¬ bt.pidEpoch = tE (ofM bt.pid ms)) := fun e => by rw [HTe.out e]; omega
  have HA1 : Hid (∀ d, (ofM bt.pid ms).length = d + 1 → ∃ g2, oa2 = some ⟨g2, 0, none⟩ ∧ w3.cell? ⟨g2, d * 5 + 4, none⟩ = some (.int .i64 (lastOff (ofM bt.pid ms)))) := fun d hd => by
    obtain ⟨g2, e2⟩ := hoa2 (by omega)
    have hy : (ofM bt.pid ms)[d]? = some ((ofM bt.pid ms)[d]'(by omega)) := List.getElem?_eq_getElem (by omega)
    refine ⟨g2, e2, ?_⟩
    have hm := HM3.out
    rw [e2] at hm
    rw [HLo.out d _ hd hy]
    exact (hm.at_ d _ hy).2.2.2.2
  clear HTe HLo HM3 hoa2 hnn2
  have hOLf : (ofM bt.pid ms).length ≤ 100000 := Nat.le_trans (List.length_filter_le _ _) HT.out.few
  generalize tE (ofM bt.pid ms) = E at *
  generalize nE E (ofM bt.pid ms) = NX at *
  generalize lastOff (ofM bt.pid ms) = yo at *
  generalize (ofM bt.pid ms).length = OL at *
  go_cut [64] from 13 (fun s64 wx => s64 = .bool (!FO) ∧ Hid (Below w3.heap.size w3 wx))
  case first =>
    have HE2 : Hid (∀ B, FO = !B → .bool (!FO) = Value.bool B) := fun B e => by rw [e]; simp
    by_cases hO : OL = 0
    · obtain ⟨o4, o7⟩ := HA0.out hO
      have HE := hid (HE2.out false (by rw [HFo.out, hO]; simp [o4, o7]))
      have o1 : ¬ (0 : Int) < (OL : Int) := by omega
      have o2 : decide ((0 : Int) < (OL : Int)) = false := decide_eq_false o1
      have o3 : decide (0 < OL) = false := decide_eq_false (by omega)
      have o5 : (bt.pidEpoch == E) = false := by rw [beq_eq_false_iff_ne]; exact o7
      have o6 : decide (bt.pidEpoch < E) = false := decide_eq_false o4
      have HhO := hid hO
      clear hO HA0 HA1 HFo
      go_wp2_with fail
      go_quiet (fail)
      go_wp2_with fail
      go_meet
      case rel => exact ⟨HE.out.symm, by first | exact Below.refl _ _ | exact (Below.refl _ _).drew | exact below_drewN (Below.refl _ _) _⟩
    · obtain ⟨d, hd⟩ : ∃ d, OL = d + 1 := ⟨OL - 1, by omega⟩
      obtain ⟨g2, rfl, r4⟩ := HA1.out d hd
      have q1 : (0 : Int) < (OL : Int) := by omega
      have q1' : 0 < OL := by omega
      have q2 : IntKind.i64.wrap ((OL : Int) - 1) = (d : Int) := by rw [IntWalk.i64_in _ (by omega)]; omega
      have q4 : (d : Int) < (OL : Int) := by omega
      have q5 : decide ((0 : Int) < (OL : Int)) = true := decide_eq_true q1
      have q6 : d < OL := by omega
      have q7 : decide (0 < OL) = true := decide_eq_true q1'
      rw [q7] at HFo
      have Hhd := hid hd
      clear hd hO HA0 HA1
      by_cases d1 : bt.base ≤ yo
      · have HE := hid (HE2.out true (by rw [HFo.out]; simp [d1]))
        have d1' : decide (bt.base ≤ yo) = true := decide_eq_true d1
        go_wp2_with fail
        go_quiet (fail)
        go_wp2_with fail
        go_meet
        case rel => exact ⟨HE.out.symm, by first | exact Below.refl _ _ | exact (Below.refl _ _).drew | exact below_drewN (Below.refl _ _) _⟩
      have d1' : decide (bt.base ≤ yo) = false := decide_eq_false d1
      by_cases d2 : bt.pidEpoch < E
      · have HE := hid (HE2.out true (by rw [HFo.out]; simp [d2]))
        have d2' : decide (bt.pidEpoch < E) = true := decide_eq_true d2
        go_wp2_with fail
        go_quiet (fail)
        go_wp2_with fail
        go_meet
        case rel => exact ⟨HE.out.symm, by first | exact Below.refl _ _ | exact (Below.refl _ _).drew | exact below_drewN (Below.refl _ _) _⟩
      have d2' : decide (bt.pidEpoch < E) = false := decide_eq_false d2
      by_cases d3 : bt.pidEpoch = E
      · by_cases d4 : bt.seq < NX
        · have HE := hid (HE2.out true (by rw [HFo.out]; simp [d3, d4]))
          have d4' : decide (bt.seq < NX) = true := decide_eq_true d4
          subst d3
          go_wp2_with fail
          go_quiet (fail)
          go_wp2_with fail
          go_meet
          case rel => exact ⟨HE.out.symm, by first | exact Below.refl _ _ | exact (Below.refl _ _).drew | exact below_drewN (Below.refl _ _) _⟩
        · have HE := hid (HE2.out false (by rw [HFo.out, d1', d2']; simp [d4]))
          have d4' : decide (bt.seq < NX) = false := decide_eq_false d4
          subst d3
          go_wp2_with fail
          go_quiet (fail)
          go_wp2_with fail
          go_meet
          case rel => exact ⟨HE.out.symm, by first | exact Below.refl _ _ | exact (Below.refl _ _).drew | exact below_drewN (Below.refl _ _) _⟩
      · have HE := hid (HE2.out false (by rw [HFo.out, d1', d2']; simp [d3]))
        have d3' : (bt.pidEpoch == E) = false := by simpa using d3
        go_wp2_with fail
        go_quiet (fail)
        go_wp2_with fail
        go_meet
        case rel => exact ⟨HE.out.symm, by first | exact Below.refl _ _ | exact (Below.refl _ _).drew | exact below_drewN (Below.refl _ _) _⟩
  case rest =>
    obtain ⟨rfl, HC⟩ := hcut
    generalize wc = w4 at *
    have HX4 := hid (HX3.out.next HC.out)
    clear HX3 HKp HFo HA0 HA1 z0 z1 z2 z3 z4 z5
    obtain ⟨z0, z1, z2, z3, z4, z5⟩ := six HX4.out
    have HB4 := hid HX4.out.below
    cases FO with
    | false =>
      have HF : Hid (ms = PP) := by show _ = _; rw [HPn.out]; rfl
      go_wp2_with fail
      exact bodyPost_ret (v := .tuple #[]) (by simp [results, Try.results13, go_sem]) rfl ⟨rfl, by rw [← HF.out]; exact RF.same HT.out HX4.out.below⟩
    | true =>
      have HF : Hid (insM (markOf bt) ms = PP) := by show _ = _; rw [HPn.out]; rfl
      have HMk : Hid (markOf bt = (bt.pid, ⟨bt.pidEpoch, bt.seq, (bt.recs.length : Int), bt.base⟩)) := rfl
      clear HPn
      have hB4 := HB4.out.size
      have hBX : Below w4.heap.size w4 (w4.alloc (.cells #[.int .i64 bt.pid, .int .i64 bt.pidEpoch, .int .i64 bt.seq, .int .i64 (bt.recs.length : Int), .int .i64 bt.base] 70)) := (Below.refl _ _).alloc (Nat.le_refl _) _
      have HWX := hid (heap_alloc_new w4 (.cells #[.int .i64 bt.pid, .int .i64 bt.pidEpoch, .int .i64 bt.seq, .int .i64 (bt.recs.length : Int), .int .i64 bt.base] 70))
      have HBW := hid (HB4.out.trans (hBX.mono hB4))
      have HX5 := hid (HX4.out.next hBX)
      have hzW : (w4.alloc (.cells #[.int .i64 bt.pid, .int .i64 bt.pidEpoch, .int .i64 bt.seq, .int .i64 (bt.recs.length : Int), .int .i64 bt.base] 70)).heap.size = w4.heap.size + 1 := by simp
      clear hBX
      go_upto_region 10 with fail
      generalize w4.alloc (.cells #[.int .i64 bt.pid, .int .i64 bt.pidEpoch, .int .i64 bt.seq, .int .i64 (bt.recs.length : Int), .int .i64 bt.base] 70) = W at *
      generalize hXb : w4.heap.size = xb at *
      rw [HMk.out] at HF
      have HX1 : Hid (∀ W', Below W.heap.size W W' → W'.heap[xb]? = some (.cells #[.int .i64 bt.pid, .int .i64 bt.pidEpoch, .int .i64 bt.seq, .int .i64 (bt.recs.length : Int), .int .i64 bt.base] 70 (0, 0))) := fun W' hb => (hb.block xb (by omega)).trans HWX.out
      have HZ2 : Hid (∀ W', Below W.heap.size W W' → W'.cell? ⟨w.heap.size, 2, none⟩ = some (.int .i64 bt.pid)) := fun W' hb => by
        obtain ⟨_, _, z2, _, _, _⟩ := six (HX5.out.next hb)
        exact z2
      clear hXb z0 z1 z2 z3 z4 z5 HMk HX4 HX5 HWX HC HB4 hzW
      go_loopg [10, 11, 12] ms.length (fun kx s10 s11 s12 wr => ∃ (k : Nat) (sv : Value) (L : List Mk) (pl : Bool), k ≤ ms.length ∧ ms.length - k ≤ kx ∧ s12 = .int .i64 (k : Int) ∧ s11 = .bool pl ∧ sv = s10 ∧ Hid (ML wr W.heap.size sv L ∧ Below W.heap.size W wr ∧ L ++ restM pl (bt.pid, ⟨bt.pidEpoch, bt.seq, (bt.recs.length : Int), bt.base⟩) (ms.drop k) = PP))
      case atStart => exact ⟨0, _, [], false, by omega, by omega, rfl, rfl, rfl, ML.nil _ _, Below.refl _ _, HF.out⟩
      case round =>
        obtain ⟨k, sv, L, pl, hkl, hkx, rfl, rfl, rfl, HI⟩ := hrel
        have HBI := hid (HBW.out.trans (HI.out.2.1.mono HBW.out.size))
        have cq : wr.cell? ⟨r, 0, none⟩ = some v := kept_cell HBI.out c0
        have hWw := HI.out.2.1.size
        have hww := HBW.out.size
        have hPl : PP.length ≤ 100000 := by rw [← HF.out, insM_len]; omega
        have hLl : L.length ≤ 100000 := by
          have h1 := congrArg List.length HI.out.2.2
          rw [List.length_append] at h1
          omega
        have z2 := HZ2.out _ HI.out.2.1
        have x0 := cell_blk (HX1.out _ HI.out.2.1) 0 _ rfl
        have x1 := cell_blk (HX1.out _ HI.out.2.1) 1 _ rfl
        have x2 := cell_blk (HX1.out _ HI.out.2.1) 2 _ rfl
        have x3 := cell_blk (HX1.out _ HI.out.2.1) 3 _ rfl
        have x4 := cell_blk (HX1.out _ HI.out.2.1) 4 _ rfl
        rw [HV.out] at cq
        by_cases hlt : k < ms.length
        · have hlt' : (k : Int) < (ms.length : Int) := by omega
          obtain ⟨g, hg⟩ := hoa (by omega)
          have hrow0 := HT.out.row
          rw [HV.out, hg] at hrow0
          rw [hg] at cq
          have hx : ms[k]? = some ms[k] := List.getElem?_eq_getElem hlt
          have HYat : Hid (∀ W', Below w.heap.size w W' → W'.cell? ⟨g, k * 5, none⟩ = some (.int .i64 ms[k].1) ∧ W'.cell? ⟨g, k * 5 + 1, none⟩ = some (.int .i64 ms[k].2.ep) ∧ W'.cell? ⟨g, k * 5 + 2, none⟩ = some (.int .i64 ms[k].2.seq) ∧ W'.cell? ⟨g, k * 5 + 3, none⟩ = some (.int .i64 ms[k].2.n) ∧ W'.cell? ⟨g, k * 5 + 4, none⟩ = some (.int .i64 ms[k].2.off)) := fun W' hb => (hrow0.under hb).at_ k _ hx
          have HCq : Hid (∀ W', Below w.heap.size w W' → W'.cell? ⟨r, 0, none⟩ = some (.slice (some ⟨g, 0, none⟩) ms.length cp)) := fun W' hb => by
            have := kept_cell hb c0
            rw [HV.out, hg] at this
            exact this
          have HNo := hid (fun hn => ins_no (x := (bt.pid, ⟨bt.pidEpoch, bt.seq, (bt.recs.length : Int), bt.base⟩)) hx hn)
          have HYes := hid (fun hn => ins_yes (x := (bt.pid, ⟨bt.pidEpoch, bt.seq, (bt.recs.length : Int), bt.base⟩)) hx hn)
          have HDr := hid (mdrop_at hx)
          have hk1 : IntKind.i64.wrap ((k : Int) + 1) = (k : Int) + 1 := IntWalk.i64_in _ (by omega)
          clear hx hrow0 hg
          generalize ms[k] = Y at *
          obtain ⟨yp, ye, ys, yn, yo⟩ := Y
          simp only at HYat HNo HYes HDr
          obtain ⟨r0, r1, r2, r3, r4⟩ := HYat.out _ HBI.out
          obtain ⟨B, hB⟩ : ∃ B : Bool, B = (!pl && decide (bt.pid < yp)) := ⟨_, rfl⟩
          have HBd := hid hB
          clear hB
          go_upto_region 12 with fail
          go_cut [100] from 77 to 114 (fun s100 wx => s100 = .bool B ∧ Hid (Below wr.heap.size wr wx))
          case first =>
            cases pl with
            | true =>
              have HBe : Hid (B = false) := by show _ = _; rw [HBd.out]; rfl
              go_wp2_with fail
              go_quiet (fail)
              go_wp2_with fail
              go_meet
              case rel => exact ⟨by rw [HBe.out], by first | exact Below.refl _ _ | exact (Below.refl _ _).drew | exact below_drewN (Below.refl _ _) _⟩
            | false =>
              by_cases e1 : bt.pid < yp
              · have HBe : Hid (B = true) := by show _ = _; rw [HBd.out]; simp [e1]
                have e1' : decide (bt.pid < yp) = true := decide_eq_true e1
                go_wp2_with fail
                go_quiet (fail)
                go_wp2_with fail
                go_meet
                case rel => exact ⟨by rw [HBe.out], by first | exact Below.refl _ _ | exact (Below.refl _ _).drew | exact below_drewN (Below.refl _ _) _⟩
              · have HBe : Hid (B = false) := by show _ = _; rw [HBd.out]; simp [e1]
                have e1' : decide (bt.pid < yp) = false := decide_eq_false e1
                go_wp2_with fail
                go_quiet (fail)
                go_wp2_with fail
                go_meet
                case rel => exact ⟨by rw [HBe.out], by first | exact Below.refl _ _ | exact (Below.refl _ _).drew | exact below_drewN (Below.refl _ _) _⟩
          case rest =>
            obtain ⟨rfl, HC2⟩ := hcut
            generalize wc = wd at *
            have HBd1 := hid (HI.out.2.1.trans (HC2.out.mono hWw))
            have HMd := hid (HI.out.1.under HC2.out)
            have HIe := hid HI.out.2.2
            clear z2 x0 x1 x2 x3 x4 r0 r1 r2 r3 r4 cq HI HBI
            have x0 := cell_blk (HX1.out _ HBd1.out) 0 _ rfl
            have x1 := cell_blk (HX1.out _ HBd1.out) 1 _ rfl
            have x2 := cell_blk (HX1.out _ HBd1.out) 2 _ rfl
            have x3 := cell_blk (HX1.out _ HBd1.out) 3 _ rfl
            have x4 := cell_blk (HX1.out _ HBd1.out) 4 _ rfl
            have hwd := HBd1.out.size
            go_upto_if 100 with fail
            go_cut [10, 11] from 77 to 114 (fun s10 s11 wx => ∃ (sv2 : Value) (L2 : List Mk) (pl2 : Bool), s10 = sv2 ∧ s11 = .bool pl2 ∧ Hid (ML wx W.heap.size sv2 L2 ∧ Below W.heap.size W wx ∧ (L2 ++ [(yp, ⟨ye, ys, yn, yo⟩)]) ++ restM pl2 (bt.pid, ⟨bt.pidEpoch, bt.seq, (bt.recs.length : Int), bt.base⟩) (ms.drop (k + 1)) = PP))
            case first =>
              cases B with
              | true =>
                have hb := HBd.out
                have hp23 := Bool.and_eq_true_iff.mp hb.symm
                have hp2 : pl = false := by simpa using hp23.1
                have hp3 : bt.pid < yp := of_decide_eq_true hp23.2
                subst hp2
                have HE : Hid ((L ++ [(bt.pid, ⟨bt.pidEpoch, bt.seq, (bt.recs.length : Int), bt.base⟩)] ++ [(yp, ⟨ye, ys, yn, yo⟩)]) ++ restM true (bt.pid, ⟨bt.pidEpoch, bt.seq, (bt.recs.length : Int), bt.base⟩) (ms.drop (k + 1)) = PP) := by
                  show _ = _
                  rw [← HIe.out]
                  simp only [restM, Bool.false_eq_true, if_false, if_true]
                  rw [HYes.out hp3]
                  simp
                clear hb hp3 hp23 HBd
                obtain ⟨hrow, hnw, hpu⟩ := push_mark HMd.out HBd1.out (bt.pid, ⟨bt.pidEpoch, bt.seq, (bt.recs.length : Int), bt.base⟩) rfl
                have HROW := hid hrow
                have HNW := hid hnw
                have HPU := hid hpu
                have HON := hid (mcells_one (bt.pid, ⟨bt.pidEpoch, bt.seq, (bt.recs.length : Int), bt.base⟩))
                have HNC : Hid ((mcells (bt.pid, ⟨bt.pidEpoch, bt.seq, (bt.recs.length : Int), bt.base⟩)).length = 1 * 5) := rfl
                obtain ⟨sa, sc, hsv, _⟩ := HMd.out.shape
                clear hrow hnw hpu
                simp only at HROW HNW HPU
                generalize flatM L = FL at *
                generalize mcells (bt.pid, ⟨bt.pidEpoch, bt.seq, (bt.recs.length : Int), bt.base⟩) = NC at *
                generalize L.length = OL2 at *
                subst hsv
                go_wp2_with (at_builtin; refine wpList_append_own_at _ rfl _ _ 56 rfl W.heap.size 70 j0 _ 5 40 Try.underlying56 hj0 hz0 hz1 hz2 rfl (by decide) _ OL2 FL rfl HROW.out ⟨_, 0, none⟩ 1 1 NC rfl HNC.out HNW.out HON.out (by unfold maxLen; omega) (by omega) (by simp; omega) ?_; intro v' w9 hown9 hg9 _ hat9; have HG := hid (HPU.out v' w9 hown9 hg9); clear hown9 hg9 hat9)
                go_meet
                case rel => exact ⟨v', _, true, rfl, rfl, HG.out.1, HG.out.2, HE.out⟩
              | false =>
                have HE : Hid ((L ++ [(yp, ⟨ye, ys, yn, yo⟩)]) ++ restM pl (bt.pid, ⟨bt.pidEpoch, bt.seq, (bt.recs.length : Int), bt.base⟩) (ms.drop (k + 1)) = PP) := by
                  show _ = _
                  rw [← HIe.out]
                  have hb := HBd.out
                  cases pl with
                  | true => simp only [restM, if_true]; rw [HDr.out]; simp
                  | false =>
                    have hp3 : ¬ bt.pid < yp := by simpa using hb.symm
                    simp only [restM, Bool.false_eq_true, if_false]
                    rw [HNo.out hp3]
                    simp
                go_wp2_with fail
                go_meet
                case rel => exact ⟨sv, L, pl, rfl, rfl, HMd.out, HBd1.out, HE.out⟩
            case rest =>
              obtain ⟨sv2, L2, pl2, rfl, rfl, HJ⟩ := hcut
              generalize wc = we at *
              have HMe := hid HJ.out.1
              have HBe1 := hid HJ.out.2.1
              have HBe2 := hid (HBW.out.trans (HBe1.out.mono hww))
              have HE := hid HJ.out.2.2
              have hwe := HBe1.out.size
              have hL2 : L2.length ≤ 100000 := by
                have h1 := congrArg List.length HE.out
                rw [List.length_append, List.length_append] at h1
                omega
              clear HJ HIe x0 x1 x2 x3 x4
              obtain ⟨r0, r1, r2, r3, r4⟩ := HYat.out _ HBe2.out
              have cq := HCq.out _ HBe2.out
              obtain ⟨hrow, hnw, hpu⟩ := push_mark HMe.out HBe1.out (yp, ⟨ye, ys, yn, yo⟩) rfl
              have HROW := hid hrow
              have HNW := hid hnw
              have HPU := hid hpu
              have HON := hid (mcells_one (yp, ⟨ye, ys, yn, yo⟩))
              have HNC : Hid ((mcells (yp, ⟨ye, ys, yn, yo⟩)).length = 1 * 5) := rfl
              obtain ⟨sa, sc, hsv, _⟩ := HMe.out.shape
              clear hrow hnw hpu
              simp only at HROW HNW HPU
              generalize flatM L2 = FL at *
              generalize mcells (yp, ⟨ye, ys, yn, yo⟩) = NC at *
              generalize L2.length = OL2 at *
              subst hsv
              go_wp2_with (at_builtin; refine wpList_append_own_at _ rfl _ _ 56 rfl W.heap.size 70 j0 _ 5 40 Try.underlying56 hj0 hz0 hz1 hz2 rfl (by decide) _ OL2 FL rfl HROW.out ⟨_, 0, none⟩ 1 1 NC rfl HNC.out HNW.out HON.out (by unfold maxLen; omega) (by omega) (by simp; omega) ?_; intro v' w9 hown9 hg9 _ hat9; have HG := hid (HPU.out v' w9 hown9 hg9); clear hown9 hg9 hat9)
              go_roundg (ms.length - (k + 1))
              case measure => omega
              case rel => exact ⟨k + 1, v', _, pl2, by omega, Nat.le_refl _, by go_num, rfl, rfl, HG.out.1, HG.out.2, HE.out⟩
        · have hlt' : ¬ (k : Int) < (ms.length : Int) := by omega
          have HDe : Hid (ms.drop k = []) := by show _ = _; exact List.drop_of_length_le (by omega)
          have HIe := hid HI.out.2.2
          rw [HDe.out] at HIe
          have fq : wr.frozen? ⟨r, 0, none⟩ = false := (HT.out.under HBI.out).f0
          have HMI := hid HI.out.1
          have HBI1 := hid HI.out.2.1
          have HFi : Hid (∀ w9 v9, ML w9 W.heap.size v9 PP → Below W.heap.size W w9 → RA w (w9.setCell ⟨r, 0, none⟩ v9) r PP ∧ w9.cell? ⟨r, 0, none⟩ = some (.slice oa ms.length cp) ∧ w9.frozen? ⟨r, 0, none⟩ = false ∧ ∃ a9 c9 n9, v9 = .slice a9 n9 c9) := fun w9 v9 hm hb => by
            have hbw := HBW.out.trans (hb.mono hww)
            have hm2 : ML w9 w.heap.size v9 PP := World.ownsRow.mono hm hww
            obtain ⟨a9, c9, e9, _⟩ := hm.shape
            have hc9 := kept_cell hbw c0
            rw [HV.out] at hc9
            exact ⟨HT.out.set hbw hm2 hPl, hc9, (HT.out.under hbw).f0, a9, c9, _, e9⟩
          clear HI
          cases pl with
          | true =>
            have HE : Hid (L = PP) := by show _ = _; have := HIe.out; simpa [restM] using this
            rw [HE.out] at HMI
            obtain ⟨hra, _, _, a9, c9, n9, hv9⟩ := HFi.out _ _ HMI.out HBI1.out
            have HRA := hid hra
            clear hra
            subst hv9
            go_wp2_with fail
            go_end0
            exact ⟨rfl, RA.rf HRA.out⟩
          | false =>
            have HE : Hid (L ++ [(bt.pid, ⟨bt.pidEpoch, bt.seq, (bt.recs.length : Int), bt.base⟩)] = PP) := by show _ = _; have := HIe.out; simpa [restM, insM] using this
            rw [← HE.out] at HFi
            obtain ⟨hrow, hnw, hpu⟩ := push_mark HMI.out HBI1.out (bt.pid, ⟨bt.pidEpoch, bt.seq, (bt.recs.length : Int), bt.base⟩) rfl
            have HROW := hid hrow
            have HNW := hid hnw
            have HPU := hid hpu
            have HON := hid (mcells_one (bt.pid, ⟨bt.pidEpoch, bt.seq, (bt.recs.length : Int), bt.base⟩))
            have HNC : Hid ((mcells (bt.pid, ⟨bt.pidEpoch, bt.seq, (bt.recs.length : Int), bt.base⟩)).length = 1 * 5) := rfl
            obtain ⟨sa, sc, hsv, _⟩ := HMI.out.shape
            clear hrow hnw hpu
            simp only at HROW HNW HPU
            generalize flatM L = FL at *
            generalize mcells (bt.pid, ⟨bt.pidEpoch, bt.seq, (bt.recs.length : Int), bt.base⟩) = NC at *
            generalize L.length = OL2 at *
            subst hsv
            go_wp2_with (at_builtin; refine wpList_append_own_at _ rfl _ _ 56 rfl W.heap.size 70 j0 _ 5 40 Try.underlying56 hj0 hz0 hz1 hz2 rfl (by decide) _ OL2 FL rfl HROW.out ⟨_, 0, none⟩ 1 1 NC rfl HNC.out HNW.out HON.out (by unfold maxLen; omega) (by omega) (by simp; omega) ?_; intro v' w9 hown9 hg9 _ hat9; have HG := hid (HPU.out v' w9 hown9 hg9); clear hown9 hg9 hat9; obtain ⟨hra, cq9, fq9, a9, c9, n9, hv9⟩ := HFi.out w9 v' HG.out.1 HG.out.2; have HRA := hid hra; clear hra; subst hv9)
            go_end0
            rw [← HE.out]
            exact ⟨rfl, RA.rf HRA.out⟩
end Go.Proofs.Ytkdbclnnmpnfgaa

