/- The document's Keep: the walk. -/
import Derived.Test.YtkdbclnnmpnfgaaHR2
import Derived.Deep.RegionHeld3
import Derived.Deep.QuietTactic
import Derived.BigQuiet
import Derived.Deep.CutRange
import Derived.Deep.CutBlock
namespace Go.Proofs.Ytkdbclnnmpnfgaa
open Go.RowKit Go.Maps
set_option maxRecDepth 100000
set_option linter.unusedSimpArgs false
set_option linter.unusedVariables false

def MOk (ms : List Mk) : Prop := ∀ m ∈ ms, (0 ≤ m.1 ∧ m.1 ≤ 1000000000) ∧ NtOk m.2

theorem headB_no {prev : Option Int} {p : Int} {c : Nat} (h : prev = some p) : headB prev p c = [] := if_pos h
theorem headB_yes {prev : Option Int} {p : Int} {c : Nat} (h : prev ≠ some p) : headB prev p c = intsL [p, (c : Int)] := if_neg h

set_option maxHeartbeats 12800000 in
theorem rkeep_any {w : World} {r : Nat} {v : Value} {ms : List Mk} (h : RT w r v ms) (hok : MOk ms) :
    Calls Try.prog 22 #[.pointer (some ⟨r, 0, none⟩)] w fun e w' => e = .returned (.string (strOf (sealL (intL (refM none ms : Int) ++ refB ms none ms)))) ∧ Below w.heap.size w w' := by
  obtain ⟨PP, hPP⟩ : ∃ PP, sealL (intL (refM none ms : Int) ++ refB ms none ms) = PP := ⟨_, rfl⟩
  rw [hPP]
  have HPP : Hid (fourL (crcL (intL (refM none ms : Int) ++ refB ms none ms)) ++ (intL (refM none ms : Int) ++ refB ms none ms) = PP) := hPP
  clear hPP
  have HR := hid h
  have HOK := hid hok
  have hfew := h.few
  have c0 := h.c0
  have hrl := h.lt
  obtain ⟨oa, cap, rfl, hcap, hcm, hnn, hoa⟩ := h.row.shape
  have HI52 : Hid (∀ (n : Int) (W : World), I64 n → Calls Try.prog 52 #[.int .i64 n] W fun e w' => e = .returned (.string (strOf (intL n))) ∧ Below W.heap.size W w') := fun n W hn => rint_any n W hn
  clear h hok
  go_enter Try.func22, Try.ntmps22
  go_wp2_with fail
  go_loopg [3, 4, 5] ms.length (fun kx s3 s4 s5 wr => ∃ (k : Nat), k ≤ ms.length ∧ ms.length - k ≤ kx ∧ s5 = .int .i64 (k : Int) ∧ s4 = .int .i64 (refM none (ms.take k) : Int) ∧ s3 = .string (strOf (refB ms none (ms.take k))) ∧ Hid (Below w.heap.size w wr))
  case atStart => exact ⟨0, by omega, by omega, rfl, rfl, rfl, Below.refl _ _⟩
  case round =>
    obtain ⟨k, hkl, hkx, rfl, rfl, rfl, HI⟩ := hrel
    have cq : wr.cell? ⟨r, 0, none⟩ = some (.slice oa ms.length cap) := kept_cell HI.out c0
    have hws := HI.out.size
    by_cases hlt : k < ms.length
    · have hlt' : (k : Int) < (ms.length : Int) := by omega
      obtain ⟨g, rfl⟩ := hoa (by omega)
      have hx : ms[k]? = some ms[k] := List.getElem?_eq_getElem hlt
      obtain ⟨r0, r1, r2, r3, r4⟩ := (HR.out.row.under HI.out).at_ k _ hx
      have hXo := HOK.out ms[k] (List.getElem_mem hlt)
      have HTB : Hid (refB ms none (ms.take (k + 1)) = refB ms none (ms.take k) ++ (headB (lastP none (ms.take k)) ms[k].1 (ofM ms[k].1 ms).length ++ noteB ms[k].2)) := by
        show _ = _; rw [List.take_succ_eq_append_getElem hlt, refB_snoc]
      have HTM : Hid (refM none (ms.take (k + 1)) = refM none (ms.take k) + (if lastP none (ms.take k) = some ms[k].1 then 0 else 1)) := by
        show _ = _; rw [List.take_succ_eq_append_getElem hlt, refM_snoc]
      have hgw := (HR.out.row.lt g rfl).2
      have hLn := refB_length ms (ms.take k) none
      have hMn := refM_le (ms.take k) none
      rw [List.length_take] at hLn hMn
      have HOf : Hid (∀ (W : World) (pid : Int), Below w.heap.size w W → Calls Try.prog 31 #[.pointer (some ⟨r, 0, none⟩), .int .i64 pid] W fun e w' => ∃ v', e = .returned v' ∧ (∃ a c, v' = .slice a (ofM pid ms).length c) ∧ Below W.heap.size W w') := fun W pid hW => (of_any (HR.out.under hW) pid).mono fun e w' ⟨v', e1, e2, e3⟩ => by
        obtain ⟨a, c, hs, _⟩ := e2.shape
        exact ⟨v', e1, ⟨a, c, hs⟩, e3⟩
      have hol : (ofM ms[k].1 ms).length ≤ 100000 := Nat.le_trans (List.length_filter_le _ _) hfew
      have HL : Hid (k = 0 → lastP none (ms.take k) = none) := fun e => by subst e; rfl
      have HL2 : Hid (∀ k', k = k' + 1 → ∀ y, ms[k']? = some y → lastP none (ms.take k) = some y.1) := fun k' e y hy => by
        subst e
        unfold lastP
        rw [List.length_take, List.getElem?_take, if_pos (by omega)]
        have e2 : min (k' + 1) ms.length - 1 = k' := by omega
        rw [e2, hy]
      clear hx
      generalize ms[k] = X at *
      obtain ⟨xp, xe, xs, xn, xo⟩ := X
      simp only at *
      have e0 := hXo.1; have e1 := hXo.2.ep; have e2 := hXo.2.n; have e3 := hXo.2.seq; have e4 := hXo.2.off
      simp only at e1 e2 e3 e4
      have hBX : Below wr.heap.size wr (wr.alloc (.cells #[.int .i64 xp, .int .i64 xe, .int .i64 xs, .int .i64 xn, .int .i64 xo] 70)) := (Below.refl _ _).alloc (Nat.le_refl _) _
      have HWX := hid (heap_alloc_new wr (.cells #[.int .i64 xp, .int .i64 xe, .int .i64 xs, .int .i64 xn, .int .i64 xo] 70))
      have HBW := hid (HI.out.trans (hBX.mono hws))
      have hzW : (wr.alloc (.cells #[.int .i64 xp, .int .i64 xe, .int .i64 xs, .int .i64 xn, .int .i64 xo] 70)).heap.size = wr.heap.size + 1 := by simp
      clear hBX
      go_upto_region 7 with fail
      generalize wr.alloc (.cells #[.int .i64 xp, .int .i64 xe, .int .i64 xs, .int .i64 xn, .int .i64 xo] 70) = W at *
      clear r0 r1 r2 r3 r4 cq
      have cq : W.cell? ⟨r, 0, none⟩ = some (.slice (some ⟨g, 0, none⟩) ms.length cap) := kept_cell HBW.out c0
      have y0 := cell_blk HWX.out 0 _ rfl
      have HKp : Hid (∀ W', Below W.heap.size W W' → ∀ p u, W.cell? p = some u → W'.cell? p = some u) := fun W' hb p u hu => kept_cell hb hu
      go_cut [38] from 7 to 69 (fun s38 wx => ∃ Hd : Bool, s38 = .bool Hd ∧ Hid (Hd = !decide (lastP none (ms.take k) = some xp) ∧ Below W.heap.size W wx))
      case first =>
        cases k with
        | zero =>
          have HV : Hid (true = !decide (lastP none (ms.take 0) = some xp)) := by show _ = _; rw [HL.out rfl]; simp
          go_wp2_with fail
          go_quiet (fail)
          go_wp2_with fail
          go_meet
          case rel => exact ⟨true, rfl, HV.out, by first | exact Below.refl _ _ | exact (Below.refl _ _).drew | exact below_drewN (Below.refl _ _) _⟩
        | succ k' =>
          have hy : ms[k']? = some (ms[k']'(by omega)) := List.getElem?_eq_getElem (by omega)
          obtain ⟨v0, _, _, _, _⟩ := (HR.out.row.under HBW.out).at_ k' _ hy
          have hlp := HL2.out k' rfl _ hy
          generalize (ms[k']'(by omega)) = Y at *
          have a3 : IntKind.i64.wrap ((k' : Int) + 1 - 1) = (k' : Int) := by rw [IntWalk.i64_in _ (by omega)]; omega
          have a4 : IntKind.i64.wrap (k' : Int) = (k' : Int) := IntWalk.i64_in _ (by omega)
          have a5 : (k' : Int) < (ms.length : Int) := by omega
          have a6 : ((k' : Int) + 1 == 0) = false := by rw [beq_eq_false_iff_ne]; omega
          have a7 : decide ((k' : Int) + 1 = 0) = false := decide_eq_false (by omega)
          have a8 : ¬ ((k' : Int) + 1 = 0) := by omega
          by_cases hyp : Y.1 = xp
          · have HV : Hid (false = !decide (lastP none (ms.take (k' + 1)) = some xp)) := by show _ = _; rw [hlp, hyp]; simp
            rw [hyp] at v0
            clear hlp hy hyp
            go_wp2_with fail
            go_quiet (fail)
            go_wp2_with fail
            go_meet
            case rel => exact ⟨false, rfl, HV.out, by first | exact Below.refl _ _ | exact (Below.refl _ _).drew | exact below_drewN (Below.refl _ _) _⟩
          · have HV : Hid (true = !decide (lastP none (ms.take (k' + 1)) = some xp)) := by show _ = _; rw [hlp]; simp [hyp]
            have hyp' : (Y.1 != xp) = true := by simpa using hyp
            clear hlp hy
            go_wp2_with fail
            go_quiet (fail)
            go_wp2_with fail
            go_meet
            case rel => exact ⟨true, rfl, HV.out, by first | exact Below.refl _ _ | exact (Below.refl _ _).drew | exact below_drewN (Below.refl _ _) _⟩
      case rest =>
        obtain ⟨Hd, rfl, HH⟩ := hcut
        generalize wc = w2 at *
        have z0 := HKp.out _ HH.out.2 _ _ y0
        have hLL : (refB ms none (ms.take k)).length ≤ 7000000 := by omega
        have hol2 := hol
        have HTB2 : Hid (refB ms none (ms.take (k + 1)) = refB ms none (ms.take k) ++ headB (lastP none (ms.take k)) xp (ofM xp ms).length ++ noteB ⟨xe, xs, xn, xo⟩) := by show _ = _; rw [HTB.out, List.append_assoc]
        go_upto_if 38 with fail
        go_cut [3, 4] from 7 to 69 (fun s3 s4 wx => s3 = .string (strOf (refB ms none (ms.take k) ++ headB (lastP none (ms.take k)) xp (ofM xp ms).length)) ∧ s4 = .int .i64 (refM none (ms.take (k + 1)) : Int) ∧ Hid (Below W.heap.size W wx))
        case first =>
          cases Hd with
          | false =>
            have hlp : lastP none (ms.take k) = some xp := by have := HH.out.1; simpa using this
            have HE : Hid (refB ms none (ms.take k) ++ headB (lastP none (ms.take k)) xp (ofM xp ms).length = refB ms none (ms.take k)) := by show _ = _; rw [headB_no hlp, List.append_nil]
            have HE2 : Hid (refM none (ms.take (k + 1)) = refM none (ms.take k)) := by show _ = _; rw [HTM.out, if_pos hlp, Nat.add_zero]
            clear hlp
            go_wp2_with fail
            go_meet
            case rel => exact ⟨by rw [HE.out], by rw [HE2.out], HH.out.2⟩
          | true =>
            have hlp : ¬ lastP none (ms.take k) = some xp := by have := HH.out.1; simpa using this
            have HE2 : Hid (((refM none (ms.take (k + 1)) : Nat) : Int) = ((refM none (ms.take k) : Nat) : Int) + 1) := by show _ = _; rw [HTM.out, if_neg hlp]; omega
            have HE : Hid (strOf (refB ms none (ms.take k)) ++ strOf (intL xp) ++ strOf (intL ((ofM xp ms).length : Int)) = strOf (refB ms none (ms.take k) ++ headB (lastP none (ms.take k)) xp (ofM xp ms).length)) := by
              show _ = _
              rw [strOf_append, strOf_append, headB_yes hlp]; simp [intsL]
            clear hlp
            have HA : Hid (∀ W', Below w2.heap.size w2 W' → Calls Try.prog 52 #[.int .i64 xp] W' fun e w' => e = .returned (.string (strOf (intL xp))) ∧ Below w2.heap.size w2 w') := fun W' hb => (HI52.out _ W' (i64s _ (by omega))).mono fun e w' ⟨e1, e2⟩ => ⟨e1, hb.trans (e2.mono hb.size)⟩
            have HO : Hid (∀ W', Below w2.heap.size w2 W' → Calls Try.prog 31 #[.pointer (some ⟨r, 0, none⟩), .int .i64 xp] W' fun e w' => (∃ a c, e = .returned (.slice a (ofM xp ms).length c)) ∧ Below w2.heap.size w2 w') := fun W' hb => by
              have hbw : Below w.heap.size w W' := HBW.out.trans ((HH.out.2.trans (hb.mono HH.out.2.size)).mono HBW.out.size)
              exact (HOf.out W' xp hbw).mono fun e w' ⟨v', e1, ⟨a, c, e2⟩, e3⟩ => ⟨⟨a, c, by rw [e1, e2]⟩, hb.trans (e3.mono hb.size)⟩
            have hC : I64 ((ofM xp ms).length : Int) := i64s _ (by omega)
            have HC : Hid (∀ W', Below w2.heap.size w2 W' → Calls Try.prog 52 #[.int .i64 ((ofM xp ms).length : Int)] W' fun e w' => e = .returned (.string (strOf (intL ((ofM xp ms).length : Int)))) ∧ Below w2.heap.size w2 w') := fun W' hb => (HI52.out _ W' hC).mono fun e w' ⟨e1, e2⟩ => ⟨e1, hb.trans (e2.mono hb.size)⟩
            have HK2 : Hid (∀ W', Below w2.heap.size w2 W' → ∀ p u, w2.cell? p = some u → W'.cell? p = some u) := fun W' hb p u hu => kept_cell hb hu
            generalize (ofM xp ms).length = OL at *
            generalize headB (lastP none (ms.take k)) xp OL = HB at *
            generalize refB ms none (ms.take k) = L at *
            have q0 := strOf_size L
            have q1 := strOf_size (intL xp)
            have q2 := strOf_size (intL (OL : Int))
            have l1 := (intL_length xp).2
            have l2 := (intL_length (OL : Int)).2
            have hq1 : ∀ W : World, (Op.stringOp .add (strOf L) (strOf (intL xp))).run Try.prog W = .ok (.string (strOf L ++ strOf (intL xp))) W := fun W => run_string_add (P := Try.prog) W _ _ (by rw [q0]; omega) (by rw [q1]; omega)
            have hq2 : ∀ W : World, (Op.stringOp .add (strOf L ++ strOf (intL xp)) (strOf (intL (OL : Int)))).run Try.prog W = .ok (.string (strOf L ++ strOf (intL xp) ++ strOf (intL (OL : Int)))) W := fun W => run_string_add (P := Try.prog) W _ _ (by rw [strOf_append, strOf_size, List.length_append]; omega) (by rw [q2]; omega)
            have hm1 : refM none (ms.take k) ≤ 100000 := by omega
            go_wp2_with fail
            go_region_held3 (fun w' => w'.cell? ⟨wr.heap.size, 0, none⟩ = some (.int .i64 xp)) (go_keep)
              (first
              | (go_at_call_of 52 (Value.int IntKind.i64 xp); refine (HA.out _ ?_).mono ?_; (first | exact Below.refl _ _ | exact (Below.refl _ _).drew); rintro e w3 ⟨rfl, hbz⟩; have p0 := HK2.out _ hbz _ _ z0)
              | (go_at_call 31; refine (HO.out _ ?_).mono ?_; (first | exact hbz | exact hbz.drew); rintro e w4 ⟨⟨a4, c4, rfl⟩, hby⟩; have p0 := HK2.out _ hby _ _ z0)
              | (go_at_call_of 52 (Value.int IntKind.i64 (OL : Int)); refine (HC.out _ ?_).mono ?_; (first | exact hby | exact hby.drew); rintro e w5 ⟨rfl, hb5⟩; have p0 := HK2.out _ hb5 _ _ z0)
              | fail)
            all_goals
              go_wp2_with fail
              rw [HE.out]
              go_meet
              case rel => exact ⟨rfl, by rw [HE2.out], HH.out.2.trans (hb5.mono HH.out.2.size)⟩
        case rest =>
          obtain ⟨rfl, rfl, HB3⟩ := hcut
          generalize wc = w3 at *
          have x1 := HKp.out _ HB3.out _ _ (cell_blk HWX.out 1 _ rfl)
          have x2 := HKp.out _ HB3.out _ _ (cell_blk HWX.out 2 _ rfl)
          have x3 := HKp.out _ HB3.out _ _ (cell_blk HWX.out 3 _ rfl)
          have x4 := HKp.out _ HB3.out _ _ (cell_blk HWX.out 4 _ rfl)
          have hhd : (headB (lastP none (ms.take k)) xp (ofM xp ms).length).length ≤ 20 := by
            unfold headB
            split
            · simp
            · exact intsL_length [xp, ((ofM xp ms).length : Int)]
          have hLL2 : (refB ms none (ms.take k) ++ headB (lastP none (ms.take k)) xp (ofM xp ms).length).length ≤ 7000020 := by rw [List.length_append]; omega
          have HE : Hid (strOf (refB ms none (ms.take k) ++ headB (lastP none (ms.take k)) xp (ofM xp ms).length) ++ strOf (intL xe) ++ strOf (intL xs) ++ strOf (intL xn) ++ strOf (intL xo) = strOf (refB ms none (ms.take (k + 1)))) := by
            show _ = _
            rw [strOf_append, strOf_append, strOf_append, strOf_append, HTB2.out]; simp [noteB, intsL]
          have HK3 : Hid (∀ W', Below w3.heap.size w3 W' → ∀ p u, w3.cell? p = some u → W'.cell? p = some u) := fun W' hb p u hu => kept_cell hb hu
          have HN : Hid (∀ (n : Int) (W' : World), I64 n → Below w3.heap.size w3 W' → Calls Try.prog 52 #[.int .i64 n] W' fun e w' => e = .returned (.string (strOf (intL n))) ∧ Below w3.heap.size w3 w') := fun n W' hn hb => (HI52.out _ W' hn).mono fun e w' ⟨e1, e2⟩ => ⟨e1, hb.trans (e2.mono hb.size)⟩
          have i1 : I64 xe := i64s _ (by omega)
          have i2 : I64 xs := i64s _ (by omega)
          have i3 : I64 xn := i64s _ (by omega)
          have i4 : I64 xo := i64s _ (by omega)
          generalize refB ms none (ms.take k) ++ headB (lastP none (ms.take k)) xp (ofM xp ms).length = L at *
          have q0 := strOf_size L
          have q1 := strOf_size (intL xe)
          have q2 := strOf_size (intL xs)
          have q3 := strOf_size (intL xn)
          have q4 := strOf_size (intL xo)
          have l1 := (intL_length xe).2
          have l2 := (intL_length xs).2
          have l3 := (intL_length xn).2
          have l4 := (intL_length xo).2
          have hq1 : ∀ W : World, (Op.stringOp .add (strOf L) (strOf (intL xe))).run Try.prog W = .ok (.string (strOf L ++ strOf (intL xe))) W := fun W => run_string_add (P := Try.prog) W _ _ (by rw [q0]; omega) (by rw [q1]; omega)
          have hq2 : ∀ W : World, (Op.stringOp .add (strOf L ++ strOf (intL xe)) (strOf (intL xs))).run Try.prog W = .ok (.string (strOf L ++ strOf (intL xe) ++ strOf (intL xs))) W := fun W => run_string_add (P := Try.prog) W _ _ (by rw [strOf_append, strOf_size, List.length_append]; omega) (by rw [q2]; omega)
          have hq3 : ∀ W : World, (Op.stringOp .add (strOf L ++ strOf (intL xe) ++ strOf (intL xs)) (strOf (intL xn))).run Try.prog W = .ok (.string (strOf L ++ strOf (intL xe) ++ strOf (intL xs) ++ strOf (intL xn))) W := fun W => run_string_add (P := Try.prog) W _ _ (by rw [strOf_append, strOf_append, strOf_size, List.length_append, List.length_append]; omega) (by rw [q3]; omega)
          have hq4 : ∀ W : World, (Op.stringOp .add (strOf L ++ strOf (intL xe) ++ strOf (intL xs) ++ strOf (intL xn)) (strOf (intL xo))).run Try.prog W = .ok (.string (strOf L ++ strOf (intL xe) ++ strOf (intL xs) ++ strOf (intL xn) ++ strOf (intL xo))) W := fun W => run_string_add (P := Try.prog) W _ _ (by rw [strOf_append, strOf_append, strOf_append, strOf_size, List.length_append, List.length_append, List.length_append]; omega) (by rw [q4]; omega)
          go_wp2_with fail
          go_region_held3 (fun w' => w'.cell? ⟨wr.heap.size, 1, none⟩ = some (.int .i64 xe) ∧ w'.cell? ⟨wr.heap.size, 2, none⟩ = some (.int .i64 xs) ∧ w'.cell? ⟨wr.heap.size, 3, none⟩ = some (.int .i64 xn) ∧ w'.cell? ⟨wr.heap.size, 4, none⟩ = some (.int .i64 xo)) (go_keep)
            (first
            | (go_at_call_of 52 (Value.int IntKind.i64 xe); refine (HN.out _ _ i1 ?_).mono ?_; (first | exact Below.refl _ _ | exact (Below.refl _ _).drew); rintro e v1 ⟨rfl, hb1⟩; have p1 := HK3.out _ hb1 _ _ x1; have p2 := HK3.out _ hb1 _ _ x2; have p3 := HK3.out _ hb1 _ _ x3; have p4 := HK3.out _ hb1 _ _ x4)
            | (go_at_call_of 52 (Value.int IntKind.i64 xs); refine (HN.out _ _ i2 ?_).mono ?_; (first | exact hb1 | exact hb1.drew); rintro e v2 ⟨rfl, hb2⟩; have p1 := HK3.out _ hb2 _ _ x1; have p2 := HK3.out _ hb2 _ _ x2; have p3 := HK3.out _ hb2 _ _ x3; have p4 := HK3.out _ hb2 _ _ x4)
            | (go_at_call_of 52 (Value.int IntKind.i64 xn); refine (HN.out _ _ i3 ?_).mono ?_; (first | exact hb2 | exact hb2.drew); rintro e v3 ⟨rfl, hb3⟩; have p1 := HK3.out _ hb3 _ _ x1; have p2 := HK3.out _ hb3 _ _ x2; have p3 := HK3.out _ hb3 _ _ x3; have p4 := HK3.out _ hb3 _ _ x4)
            | (go_at_call_of 52 (Value.int IntKind.i64 xo); refine (HN.out _ _ i4 ?_).mono ?_; (first | exact hb3 | exact hb3.drew); rintro e v4 ⟨rfl, hb4⟩; have p1 := HK3.out _ hb4 _ _ x1; have p2 := HK3.out _ hb4 _ _ x2; have p3 := HK3.out _ hb4 _ _ x3; have p4 := HK3.out _ hb4 _ _ x4)
            | fail)
          all_goals
            go_wp2_with fail
            rw [HE.out]
            go_roundg (ms.length - (k + 1))
            case measure => omega
            case rel => exact ⟨k + 1, by omega, Nat.le_refl _, by go_num, rfl, rfl, HBW.out.trans ((HB3.out.trans (hb4.mono HB3.out.size)).mono HBW.out.size)⟩
    · have hlt' : ¬ (k : Int) < (ms.length : Int) := by omega
      have e : ms.take k = ms := List.take_of_length_le (by omega)
      rw [e]
      clear e
      have hLn := refB_length ms ms none
      have hMn := refM_le ms none
      have H1 := hid (HI52.out (refM none ms : Int) wr (i64s _ (by omega)))
      have l1 := (intL_length (refM none ms : Int)).2
      have hz1 := strOf_size (intL (refM none ms : Int))
      have hz2 := strOf_size (refB ms none ms)
      have HA1 := hid (strOf_append (intL (refM none ms : Int)) (refB ms none ms))
      generalize refM none ms = RM at *
      generalize refB ms none ms = RB at *
      have hz3 := strOf_size (intL (RM : Int) ++ RB)
      have hlz : (intL (RM : Int) ++ RB).length ≤ 7000020 := by rw [List.length_append]; omega
      have HA2 := hid (strOf_append (fourL (crcL (intL (RM : Int) ++ RB))) (intL (RM : Int) ++ RB))
      go_wp2_with fail
      refine H1.out.mono ?_
      rintro en w2 ⟨rfl, hb2⟩
      have HB2 := hid hb2
      clear hb2
      have HCr : Hid (Calls Try.prog 24 #[.string (strOf (intL (RM : Int) ++ RB))] w2 fun e w' => e = .returned (.int .i64 (crcL (intL (RM : Int) ++ RB) : Nat)) ∧ w2 = w') := by
        have := rcrc_any (strOf (intL (RM : Int) ++ RB)) w2 (by rw [hz3]; unfold maxLen; omega)
        rw [strOf_data] at this
        exact this
      have HFo := hid (rfour_any (crcL (intL (RM : Int) ++ RB)) w2 (crcL_lt _))
      have hz4 := strOf_size (fourL (crcL (intL (RM : Int) ++ RB)))
      have h4 : (fourL (crcL (intL (RM : Int) ++ RB))).length = 4 := rfl
      go_wp2_with fail
      rw [HA1.out]
      generalize intL (RM : Int) ++ RB = L at *
      go_wp2_with fail
      refine HCr.out.mono ?_
      rintro en w3 ⟨rfl, hw3⟩
      subst hw3
      go_wp2_with fail
      refine HFo.out.mono ?_
      rintro en w4 ⟨rfl, hb4⟩
      go_wp2_with fail
      go_ret
      exact ⟨by rw [HA2.out, HPP.out]; rfl, HI.out.trans ((HB2.out.trans (hb4.mono HB2.out.size)).mono hws)⟩
end Go.Proofs.Ytkdbclnnmpnfgaa

