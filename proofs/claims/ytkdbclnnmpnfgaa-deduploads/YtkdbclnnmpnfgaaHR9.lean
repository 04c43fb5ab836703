/- The document's Delete, walked. -/
import Derived.Test.YtkdbclnnmpnfgaaHR8
namespace Go.Proofs.Ytkdbclnnmpnfgaa
open Go.RowKit Go.Maps
set_option maxRecDepth 100000
set_option linter.unusedSimpArgs false
set_option linter.unusedVariables false

theorem behM_take (N : Int) (x : Mk) (R : List Mk) (j : Nat) (y : Mk) (h : R[j]? = some y) : behM N x (R.take (j + 1)) = behM N x (R.take j) ++ (if (decide (y.1 = x.1) && decide (y.2.off < N)) = true then [y] else []) := by
  obtain ⟨h1, h2⟩ := List.getElem?_eq_some_iff.1 h
  rw [List.take_succ_eq_append_getElem h1, behM_append, h2]
  congr 1
  unfold behM
  rw [List.filter_cons, List.filter_nil]
theorem behM_le (N : Int) (x : Mk) (R : List Mk) : (behM N x R).length ≤ R.length := List.length_filter_le _ _
theorem beh_skip {N : Int} {x : Mk} {R : List Mk} {j : Nat} {y : Mk} (h : R[j]? = some y) (hc : y.1 ≠ x.1 ∨ N ≤ y.2.off) : behM N x (R.take (j + 1)) = behM N x (R.take j) ∧ othM N x (R.take (j + 1)) = othM N x (R.take j) := by
  have e : behM N x (R.take (j + 1)) = behM N x (R.take j) := by
    rw [behM_take N x R j y h, if_neg, List.append_nil]
    rcases hc with h1 | h1
    · simp [h1]
    · simp; intro _; omega
  exact ⟨e, by unfold othM; rw [e]⟩
theorem beh_more {N : Int} {x : Mk} {R : List Mk} {j : Nat} {y : Mk} (h : R[j]? = some y) (hc : y.1 = x.1 ∧ y.2.off < N) : (behM N x (R.take (j + 1))).length = (behM N x (R.take j)).length + 1 ∧ othM N x (R.take (j + 1)) = (othM N x (R.take j) || !decide (y.2.ep = x.2.ep)) := by
  have e : behM N x (R.take (j + 1)) = behM N x (R.take j) ++ [y] := by
    rw [behM_take N x R j y h, if_pos (by simp [hc.1, hc.2])]
  refine ⟨by rw [e, List.length_append]; rfl, ?_⟩
  unfold othM
  rw [e, List.any_append]
  simp
theorem delM_le (N : Int) : ∀ ms : List Mk, (delM N ms).length ≤ ms.length
  | [] => Nat.le_refl _
  | x :: r => by
    have := delM_le N r
    unfold delM
    split
    · simp only [List.length_cons]; omega
    · simp only [List.length_cons]; omega
theorem delM_drop (N : Int) (ms : List Mk) (k : Nat) (x : Mk) (h : ms[k]? = some x) : delM N (ms.drop k) = (if keepD N x (ms.drop (k + 1)) = true then [x] else []) ++ delM N (ms.drop (k + 1)) := by
  obtain ⟨h1, h2⟩ := List.getElem?_eq_some_iff.1 h
  rw [List.drop_eq_getElem_cons h1, h2, delM]
  split <;> rfl

set_option maxHeartbeats 6400000 in
theorem rdel_any {w : World} {r : Nat} {v : Value} {ms : List Mk} (h : RT w r v ms) (N : Int) :
    Calls Try.prog 19 #[.pointer (some ⟨r, 0, none⟩), .int .i64 N] w fun e w' => e = .returned (.tuple #[]) ∧ RA w w' r (delM N ms) := by
  have HR := hid h
  have hfew := h.few
  have c0 := h.c0
  have hrl := h.lt
  obtain ⟨oa, cap, rfl, hcap, hcm, hnn, hoa⟩ := h.row.shape
  obtain ⟨j0, hj0, hz0, hz1, hz2⟩ := info70
  clear h
  go_enter Try.func19, Try.ntmps19
  go_wp2_with fail
  go_loopg [4, 5] ms.length (fun kx s4 s5 wr => ∃ (k : Nat) (sv : Value) (L : List Mk), k ≤ ms.length ∧ ms.length - k ≤ kx ∧ s5 = .int .i64 (k : Int) ∧ sv = s4 ∧ Hid (ML wr w.heap.size sv L ∧ Below w.heap.size w wr ∧ L ++ delM N (ms.drop k) = delM N ms))
  case atStart => exact ⟨0, _, [], by omega, by omega, rfl, rfl, ML.nil _ _, Below.refl _ _, rfl⟩
  case round =>
    obtain ⟨k, sv, L, hkl, hkx, rfl, rfl, HI⟩ := hrel
    have cq : wr.cell? ⟨r, 0, none⟩ = some (.slice oa ms.length cap) := kept_cell HI.out.2.1 c0
    have hws := HI.out.2.1.size
    by_cases hlt : k < ms.length
    · have hlt' : (k : Int) < (ms.length : Int) := by omega
      obtain ⟨g, rfl⟩ := hoa (by omega)
      have hx : ms[k]? = some ms[k] := List.getElem?_eq_getElem hlt
      obtain ⟨r0, r1, r2, r3, r4⟩ := (HR.out.row.under HI.out.2.1).at_ k _ hx
      have HDr := hid (delM_drop N ms k _ hx)
      have hgw := (HR.out.row.lt g rfl).2
      clear hx
      generalize ms[k] = X at *
      obtain ⟨xp, xe, xs, xn, xo⟩ := X
      simp only at *
      have hBX : Below wr.heap.size wr (wr.alloc (.cells #[.int .i64 xp, .int .i64 xe, .int .i64 xs, .int .i64 xn, .int .i64 xo] 70)) := (Below.refl _ _).alloc (Nat.le_refl _) _
      have HWX := hid (heap_alloc_new wr (.cells #[.int .i64 xp, .int .i64 xe, .int .i64 xs, .int .i64 xn, .int .i64 xo] 70))
      have HBW := hid (HI.out.2.1.trans (hBX.mono hws))
      have HMW := hid (HI.out.1.under hBX)
      have hzW : (wr.alloc (.cells #[.int .i64 xp, .int .i64 xe, .int .i64 xs, .int .i64 xn, .int .i64 xo] 70)).heap.size = wr.heap.size + 1 := by simp
      have hLl : L.length ≤ 100000 := by
        have h1 := congrArg List.length HI.out.2.2
        rw [List.length_append] at h1
        have h2 := delM_le N ms
        omega
      have HIe := hid HI.out.2.2
      have HRlen : Hid ((ms.drop (k + 1)).length = ms.length - (k + 1)) := by show _ = _; rw [List.length_drop]
      have HRat : Hid (∀ j, (ms.drop (k + 1))[j]? = ms[k + 1 + j]?) := fun j => List.getElem?_drop
      have hk1 : IntKind.i64.wrap ((k : Int) + 1) = (k : Int) + 1 := IntWalk.i64_in _ (by omega)
      clear hBX HI
      go_upto_region 8 with fail
      generalize wr.alloc (.cells #[.int .i64 xp, .int .i64 xe, .int .i64 xs, .int .i64 xn, .int .i64 xo] 70) = W at *
      generalize hXb : wr.heap.size = xb at *
      clear hXb r0 r1 r2 r3 r4 cq
      obtain ⟨R, hRd⟩ : ∃ R, R = ms.drop (k + 1) := ⟨_, rfl⟩
      rw [← hRd] at HRlen HRat HDr
      have HRd := hid hRd
      clear hRd
      have HX1 : Hid (∀ W', Below W.heap.size W W' → W'.heap[xb]? = some (.cells #[.int .i64 xp, .int .i64 xe, .int .i64 xs, .int .i64 xn, .int .i64 xo] 70 (0, 0))) := fun W' hb => (hb.block xb (by omega)).trans HWX.out
      have hRl : R.length = ms.length - (k + 1) := HRlen.out
      obtain ⟨wb, hwb⟩ : ∃ wb, wb = wr := ⟨_, rfl⟩
      clear hwb
      go_loopg [7, 8, 9] R.length (fun jx s7 s8 s9 wi => ∃ (j i2 : Nat), j ≤ R.length ∧ i2 ≤ ms.length ∧ R.length - j ≤ jx ∧ s9 = .int .i64 (i2 : Int) ∧ s7 = .int .i64 ((behM N (xp, ⟨xe, xs, xn, xo⟩) (R.take j)).length : Int) ∧ s8 = .bool (othM N (xp, ⟨xe, xs, xn, xo⟩) (R.take j)) ∧ Hid (Below W.heap.size W wi ∧ i2 = k + 1 + j))
      case atStart => exact ⟨0, k + 1, by omega, by omega, by omega, by simp, by simp [behM], by simp [othM, behM], Below.refl _ _, rfl⟩
      case round =>
        obtain ⟨j, i2, hjl, hil, hjx, rfl, rfl, rfl, HJ⟩ := hrel
        have HBJ := hid (HBW.out.trans (HJ.out.1.mono (by have := HBW.out.size; omega)))
        have hwi := HJ.out.1.size
        have cq : wr.cell? ⟨r, 0, none⟩ = some (.slice (some ⟨g, 0, none⟩) ms.length cap) := kept_cell HBJ.out c0
        have x0 := cell_blk (HX1.out _ HJ.out.1) 0 _ rfl
        have x1 := cell_blk (HX1.out _ HJ.out.1) 1 _ rfl
        have x2 := cell_blk (HX1.out _ HJ.out.1) 2 _ rfl
        have x3 := cell_blk (HX1.out _ HJ.out.1) 3 _ rfl
        have x4 := cell_blk (HX1.out _ HJ.out.1) 4 _ rfl
        have hBl := behM_le N (xp, ⟨xe, xs, xn, xo⟩) (R.take j)
        rw [List.length_take] at hBl
        by_cases hi : i2 < ms.length
        · have hi' : (i2 : Int) < (ms.length : Int) := by omega
          have hjR : j < R.length := by have := HJ.out.2; omega
          have hy : ms[i2]? = some ms[i2] := List.getElem?_eq_getElem hi
          obtain ⟨r0, r1, r2, r3, r4⟩ := (HR.out.row.under HBJ.out).at_ i2 _ hy
          have HRj : Hid (R[j]? = some ms[i2]) := by show _ = _; rw [HRat.out j, ← HJ.out.2]; exact hy
          clear hy
          generalize ms[i2] = Y at *
          obtain ⟨yp, ye, ys, yn, yo⟩ := Y
          simp only at *
          have hBY : Below wr.heap.size wr (wr.alloc (.cells #[.int .i64 yp, .int .i64 ye, .int .i64 ys, .int .i64 yn, .int .i64 yo] 70)) := (Below.refl _ _).alloc (Nat.le_refl _) _
          have hnb := heap_alloc_new wr (.cells #[.int .i64 yp, .int .i64 ye, .int .i64 ys, .int .i64 yn, .int .i64 yo] 70)
          have HJ2 := hid (HJ.out.1.trans (hBY.mono hwi))
          have x0' := cell_blk (HX1.out _ HJ2.out) 0 _ rfl
          have x1' := cell_blk (HX1.out _ HJ2.out) 1 _ rfl
          have y0 := cell_blk hnb 0 _ rfl
          have y1 := cell_blk hnb 1 _ rfl
          have y4 := cell_blk hnb 4 _ rfl
          have HI2 := hid HJ.out.2
          have HSk := hid (fun hc => beh_skip (N := N) (x := (xp, ⟨xe, xs, xn, xo⟩)) HRj.out hc)
          have HMo := hid (fun hc => beh_more (N := N) (x := (xp, ⟨xe, xs, xn, xo⟩)) HRj.out hc)
          clear hBY hnb
          simp only at HSk HMo
          generalize hBg : (behM N (xp, ⟨xe, xs, xn, xo⟩) (R.take j)).length = BH at *
          have HBg := hid hBg
          clear hBg
          generalize othM N (xp, ⟨xe, xs, xn, xo⟩) (R.take j) = OT at *
          have hw1 : IntKind.i64.wrap ((BH : Int) + 1) = (BH : Int) + 1 := IntWalk.i64_in _ (by omega)
          have hw2 : IntKind.i64.wrap ((i2 : Int) + 1) = (i2 : Int) + 1 := IntWalk.i64_in _ (by omega)
          by_cases e1 : yp = xp
          · subst e1
            by_cases e2 : yo < N
            · have e2' : ¬ N ≤ yo := by omega
              obtain ⟨m1, m2⟩ := HMo.out ⟨rfl, e2⟩
              have HM1 := hid m1
              have HM2 := hid m2
              clear m1 m2
              cases OT with
              | true =>
                go_wp2_with fail
                go_roundg (R.length - (j + 1))
                case measure => omega
                case rel => exact ⟨j + 1, i2 + 1, by omega, by omega, Nat.le_refl _, by go_num, by rw [HM1.out]; go_num, by rw [HM2.out]; rfl, HJ2.out, by have := HI2.out; omega⟩
              | false =>
                by_cases e3 : ye = xe
                · have HM3 : Hid ((!decide (ye = xe)) = false) := by show _ = _; simp [e3]
                  subst e3
                  go_wp2_with fail
                  go_roundg (R.length - (j + 1))
                  case measure => omega
                  case rel => exact ⟨j + 1, i2 + 1, by omega, by omega, Nat.le_refl _, by go_num, by rw [HM1.out]; go_num, by rw [HM2.out, HM3.out]; rfl, HJ2.out, by have := HI2.out; omega⟩
                · have HM3 : Hid ((!decide (ye = xe)) = true) := by show _ = _; simp [e3]
                  have e3' : (ye != xe) = true := by simpa using e3
                  go_wp2_with fail
                  go_roundg (R.length - (j + 1))
                  case measure => omega
                  case rel => exact ⟨j + 1, i2 + 1, by omega, by omega, Nat.le_refl _, by go_num, by rw [HM1.out]; go_num, by rw [HM2.out, HM3.out]; simp [e3], HJ2.out, by have := HI2.out; omega⟩
            · have e2' : N ≤ yo := by omega
              obtain ⟨m1, m2⟩ := HSk.out (.inr e2')
              have HM1 := hid m1
              have HM2 := hid m2
              clear m1 m2
              go_wp2_with fail
              go_roundg (R.length - (j + 1))
              case measure => omega
              case rel => exact ⟨j + 1, i2 + 1, by omega, by omega, Nat.le_refl _, by go_num, by rw [HM1.out, HBg.out], by rw [HM2.out], HJ2.out, by have := HI2.out; omega⟩
          · have e1' : (yp != xp) = true := by simpa using e1
            obtain ⟨m1, m2⟩ := HSk.out (.inl e1)
            have HM1 := hid m1
            have HM2 := hid m2
            clear m1 m2
            go_wp2_with fail
            go_roundg (R.length - (j + 1))
            case measure => omega
            case rel => exact ⟨j + 1, i2 + 1, by omega, by omega, Nat.le_refl _, by go_num, by rw [HM1.out, HBg.out], by rw [HM2.out], HJ2.out, by have := HI2.out; omega⟩
        · have hi' : ¬ (i2 : Int) < (ms.length : Int) := by omega
          have HRt : Hid (R.take j = R) := by show _ = _; exact List.take_of_length_le (by have := HJ.out.2; omega)
          rw [HRt.out] at hBl ⊢
          have HKd : Hid (keepD N (xp, ⟨xe, xs, xn, xo⟩) R = (decide (N ≤ xo) || (!othM N (xp, ⟨xe, xs, xn, xo⟩) R && decide ((behM N (xp, ⟨xe, xs, xn, xo⟩) R).length < 5)))) := rfl
          have HMJ := hid (HMW.out.under HJ.out.1)
          generalize hKg : keepD N (xp, ⟨xe, xs, xn, xo⟩) R = KD at *
          clear hKg
          generalize (behM N (xp, ⟨xe, xs, xn, xo⟩) R).length = BH at *
          generalize othM N (xp, ⟨xe, xs, xn, xo⟩) R = OT at *
          have HYes : Hid (KD = true → (L ++ [(xp, ⟨xe, xs, xn, xo⟩)]) ++ delM N R = delM N ms) := fun e => by rw [← HIe.out, HDr.out, if_pos e, List.append_assoc]
          have HNo : Hid (KD = false → L ++ delM N R = delM N ms) := fun e => by rw [← HIe.out, HDr.out, if_neg (by rw [e]; simp)]; simp
          obtain ⟨hrow, hnw, hpu⟩ := push_mark HMJ.out HBJ.out (xp, ⟨xe, xs, xn, xo⟩) rfl
          have HROW := hid hrow
          have HNW := hid hnw
          have HPU := hid hpu
          have HON := hid (mcells_one (xp, ⟨xe, xs, xn, xo⟩))
          have HNC : Hid ((mcells (xp, ⟨xe, xs, xn, xo⟩)).length = 1 * 5) := rfl
          obtain ⟨sa, sc, hsv, _⟩ := HMJ.out.shape
          clear hrow hnw hpu HIe HDr
          simp only at HROW HNW HPU
          generalize flatM L = FL at *
          generalize mcells (xp, ⟨xe, xs, xn, xo⟩) = NC at *
          subst hsv
          have hw3 : IntKind.i64.wrap ((k : Int) + 1) = (k : Int) + 1 := IntWalk.i64_in _ (by omega)
          by_cases d1 : N ≤ xo
          · have HY := hid (HYes.out (by rw [HKd.out]; simp [d1]))
            generalize L.length = OL at *
            go_wp2_with (at_builtin; refine wpList_append_own_at _ rfl _ _ 56 rfl w.heap.size 70 j0 _ 5 40 Try.underlying56 hj0 hz0 hz1 hz2 rfl (by decide) _ OL FL rfl HROW.out ⟨wr.heap.size, 0, none⟩ 1 1 NC rfl HNC.out HNW.out HON.out (by unfold maxLen; omega) (by omega) (by simp; omega) ?_; intro v' w9 hown9 hg9 _ hat9; have HG := hid (HPU.out v' w9 hown9 hg9); clear hown9 hg9 hat9)
            go_roundg (ms.length - (k + 1))
            case measure => omega
            case rel => exact ⟨k + 1, v', _, by omega, Nat.le_refl _, by go_num, rfl, HG.out.1, HG.out.2, by rw [← HRd.out]; exact HY.out⟩
          · cases OT with
            | true =>
              have HY := hid (HNo.out (by rw [HKd.out]; simp [d1]))
              go_wp2_with fail
              go_roundg (ms.length - (k + 1))
              case measure => omega
              case rel => exact ⟨k + 1, _, L, by omega, Nat.le_refl _, by go_num, rfl, HMJ.out, HBJ.out, by rw [← HRd.out]; exact HY.out⟩
            | false =>
              by_cases d2 : BH < 5
              · have d2' : (BH : Int) < 5 := by omega
                have HY := hid (HYes.out (by rw [HKd.out]; simp [d2]))
                generalize L.length = OL at *
                go_wp2_with (at_builtin; refine wpList_append_own_at _ rfl _ _ 56 rfl w.heap.size 70 j0 _ 5 40 Try.underlying56 hj0 hz0 hz1 hz2 rfl (by decide) _ OL FL rfl HROW.out ⟨wr.heap.size, 0, none⟩ 1 1 NC rfl HNC.out HNW.out HON.out (by unfold maxLen; omega) (by omega) (by simp; omega) ?_; intro v' w9 hown9 hg9 _ hat9; have HG := hid (HPU.out v' w9 hown9 hg9); clear hown9 hg9 hat9)
                go_roundg (ms.length - (k + 1))
                case measure => omega
                case rel => exact ⟨k + 1, v', _, by omega, Nat.le_refl _, by go_num, rfl, HG.out.1, HG.out.2, by rw [← HRd.out]; exact HY.out⟩
              · have d2' : ¬ (BH : Int) < 5 := by omega
                have HY := hid (HNo.out (by rw [HKd.out]; simp [d1, d2]))
                go_wp2_with fail
                go_roundg (ms.length - (k + 1))
                case measure => omega
                case rel => exact ⟨k + 1, _, L, by omega, Nat.le_refl _, by go_num, rfl, HMJ.out, HBJ.out, by rw [← HRd.out]; exact HY.out⟩
    · have hlt' : ¬ (k : Int) < (ms.length : Int) := by omega
      have HE : Hid (L = delM N ms) := by
        show _ = _
        have e := HI.out.2.2
        rw [List.drop_of_length_le (by omega)] at e
        simpa [delM] using e
      have HF := hid (HR.out.set HI.out.2.1 HI.out.1 (by rw [HE.out]; exact Nat.le_trans (delM_le N ms) hfew))
      rw [HE.out] at HF
      obtain ⟨sa, sc, hsv, _⟩ := HI.out.1.shape
      have fq : wr.frozen? ⟨r, 0, none⟩ = false := (HR.out.under HI.out.2.1).f0
      subst hsv
      go_wp2_with fail
      go_end0
      exact ⟨rfl, HF.out⟩
end Go.Proofs.Ytkdbclnnmpnfgaa

