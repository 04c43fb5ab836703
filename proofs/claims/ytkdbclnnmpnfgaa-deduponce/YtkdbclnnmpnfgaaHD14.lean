/- answered says true of what an answer may be. -/
import Derived.Test.YtkdbclnnmpnfgaaHD13
import Derived.Deep.CutRange
import Derived.Deep.CutBlock
namespace Go.Proofs.Ytkdbclnnmpnfgaa
open Go.RowKit Go.Maps
set_option maxRecDepth 100000
set_option linter.unusedSimpArgs false
set_option linter.unusedVariables false

def AsIs (s : As) (a b c d : Value) : Prop := a = .int .i64 s.ep ∧ b = .int .i64 s.behind ∧ c = .int .i64 s.count ∧ d = .int .i64 s.found

set_option maxHeartbeats 12800000 in
theorem answered_any {w : World} {B : Nat} {v : Value} {ls : List (Lg × Nat)} (h : LR w B v ls) (hlen : ls.length ≤ 1000) (hok : ∀ p ∈ ls, LgOk p.1) (b : Lg) (hb : LgOk b) (gb : Nat) (at_ e : Int)
    (hno : ∀ p ∈ ls, overB2 p.1 b = true → ¬ (e = 0 ∧ at_ < 0)) (hgood : Good (asAll b (ls.map (·.1))) b at_ e) :
    Calls Try.prog 27 #[v, .agg #[.int .i64 b.base, .int .i64 0, .int .i64 b.pid, .int .i64 b.ep, .int .i64 b.seq, .slice (some ⟨gb, 0, none⟩) b.n b.n], .int .i64 at_, .int .i64 e] w fun en w' => en = .returned (.bool true) ∧ Below w.heap.size w w' := by
  have HLR := hid h
  obtain ⟨oa, cap, rfl, hcap, hcm, hnn, hoa⟩ := h.shape
  have HX0 := hid (Boxed.laid w (.cells #[.int .i64 b.base, .int .i64 0, .int .i64 b.pid, .int .i64 b.ep, .int .i64 b.seq, .slice (some ⟨gb, 0, none⟩) b.n b.n] 33))
  have HOK := hid hok
  have HBOK := hid hb
  have HNO := hid hno
  have HG := hid hgood
  have HA := hid (asAll_ok b)
  have hb2 := hb.ep; have hb3 := hb.seq; have hb4 := hb.n
  obtain ⟨bp, be, bs, bn, bb⟩ := b
  simp only at *
  clear h hok hb hno hgood hnn
  have h0 : IntKind.i64.wrap ((ls.length : Int) - 1) = (ls.length : Int) - 1 := IntWalk.i64_in _ (by omega)
  go_enter Try.func27, Try.ntmps27
  go_wp2_with fail
  go_loopg [9, 10, 11, 12, 13] (ls.length) (fun kx s9 s10 s11 s12 s13 wr => ∃ (i : Nat) (s : As), i ≤ ls.length ∧ i ≤ kx ∧ s13 = .int .i64 ((i : Int) - 1) ∧ s9 = .int .i64 s.ep ∧ s10 = .int .i64 s.behind ∧ s11 = .int .i64 s.count ∧ s12 = .int .i64 s.found ∧ Hid (s = asAll ⟨bp, be, bs, bn, bb⟩ ((ls.drop i).map (·.1)) ∧ Boxed w wr (.cells #[.int .i64 bb, .int .i64 0, .int .i64 bp, .int .i64 be, .int .i64 bs, .slice (some ⟨gb, 0, none⟩) bn bn] 33)))
  case atStart => exact ⟨ls.length, as0, Nat.le_refl _, Nat.le_refl _, rfl, rfl, rfl, rfl, rfl, by rw [List.drop_length]; rfl, HX0.out⟩
  case round =>
    obtain ⟨i, s, hil, hik, rfl, rfl, rfl, rfl, rfl, HI⟩ := hrel
    obtain ⟨c0, c1, c2, c3, c4, c5⟩ := six HI.out.2
    have hwl := HI.out.2.lt
    by_cases i0 : i = 0
    · subst i0
      have HS : Hid (Good s ⟨bp, be, bs, bn, bb⟩ at_ e) := by show Good _ _ _ _; rw [HI.out.1, List.drop_zero]; exact HG.out
      clear HG
      obtain ⟨sp, sb, sc, sf⟩ := s
      rcases HS.out with ⟨g1, g2, g3⟩ | ⟨g1, ⟨g2, g3, g4, g5⟩ | ⟨g2, g3, g4, g5⟩ | ⟨g2, g3⟩ | ⟨g2, g3, g4⟩ | ⟨g2, g3, g4⟩ | ⟨g2, g3, g4⟩⟩
      all_goals
        simp only at *
        clear HS
      · subst g2 g3
        go_wp2_with fail
        go_ret
        exact ⟨rfl, HI.out.2.below⟩
      · subst g2 g3 g4 g5
        go_wp2_with fail
        go_ret
        exact ⟨rfl, HI.out.2.below⟩
      · subst g2 g3 g5
        have g6 : (be == sp) = false := by simp; omega
        go_wp2_with fail
        go_ret
        exact ⟨rfl, HI.out.2.below⟩
      · subst g2
        go_wp2_with fail
        go_ret
        exact ⟨rfl, HI.out.2.below⟩
      · subst g2 g3
        go_wp2_with fail
        go_ret
        exact ⟨rfl, HI.out.2.below⟩
      · subst g2
        have g6 : (be == sp) = false := by simp; omega
        go_wp2_with fail
        go_ret
        exact ⟨rfl, HI.out.2.below⟩
      · subst g2 g3
        go_wp2_with fail
        go_ret
        exact ⟨rfl, HI.out.2.below⟩
    · obtain ⟨j, hj⟩ : ∃ j, i = j + 1 := ⟨i - 1, by omega⟩
      subst hj
      have e13 : ((j + 1 : Nat) : Int) - 1 = (j : Int) := by omega
      rw [e13]
      clear e13
      have hjl : j < ls.length := by omega
      have hx : ls[j]? = some ls[j] := List.getElem?_eq_getElem hjl
      have hXok := HOK.out ls[j] (List.getElem_mem hjl)
      have hXno := HNO.out ls[j] (List.getElem_mem hjl)
      obtain ⟨g, rfl⟩ := hoa (by omega)
      obtain ⟨t0, t1, t2, t3, t4, t5⟩ := (HLR.out.under HI.out.2.below).at_ j _ hx
      have HD : Hid (∀ b : Lg, asAll b ((ls.drop j).map (·.1)) = asStep b (asAll b ((ls.drop (j + 1)).map (·.1))) ls[j].1) := fun b => by
        rw [List.drop_eq_getElem_cons hjl]; rfl
      generalize ls[j] = X at *
      obtain ⟨⟨xp, xe, xs, xn, xb⟩, gx⟩ := X
      have hx1 := hXok.ep; have hx2 := hXok.seq; have hx3 := hXok.n; have hx4 := hXok.base
      simp only at *
      have hAs := HA.out ((ls.drop (j + 1)).map (·.1)) (fun x hx => by
        obtain ⟨p, hp, rfl⟩ := List.mem_map.1 hx
        exact HOK.out p (List.mem_of_mem_drop hp))
      rw [← HI.out.1] at hAs
      have hcl : ((ls.drop (j + 1)).map (·.1)).length ≤ 1000 := by rw [List.length_map, List.length_drop]; omega
      have HSt : Hid (asAll ⟨bp, be, bs, bn, bb⟩ ((ls.drop j).map (·.1)) = asStep ⟨bp, be, bs, bn, bb⟩ s ⟨xp, xe, xs, xn, xb⟩) := by show _ = _; rw [HD.out, ← HI.out.1]
      obtain ⟨sp, sb, sc, sf⟩ := s
      obtain ⟨a1, a2, a3, a4, a5, a6, a7, a8⟩ := hAs
      simp only at a1 a2 a3 a4 a5 a6 a7 a8
      have a6' : sc ≤ 1000 := by omega
      have hj3 : (j : Int) < (ls.length : Int) := by omega
      have HNX := hid (HI.out.2.next ((Below.refl wr.heap.size wr).alloc (Nat.le_refl _) (.cells #[.int .i64 xb, .int .i64 0, .int .i64 xp, .int .i64 xe, .int .i64 xs, .slice (some ⟨gx, 0, none⟩) xn xn] 33)))
      have HYX := hid (heap_alloc_new wr (.cells #[.int .i64 xb, .int .i64 0, .int .i64 xp, .int .i64 xe, .int .i64 xs, .slice (some ⟨gx, 0, none⟩) xn xn] 33))
      have HXO := hid hXok
      have HXN := hid hXno
      clear hx hXok hXno HD hcl a6 i0 HG
      have hw0 : wr.heap.size < (wr.alloc (.cells #[.int .i64 xb, .int .i64 0, .int .i64 xp, .int .i64 xe, .int .i64 xs, .slice (some ⟨gx, 0, none⟩) xn xn] 33)).heap.size := by simp
      by_cases hpp : xp = bp
      · subst hpp
        have HS1 : Hid (asStep ⟨xp, be, bs, bn, bb⟩ ⟨sp, sb, sc, sf⟩ ⟨xp, xe, xs, xn, xb⟩ = asC ⟨xp, be, bs, bn, bb⟩ (asB (asA ⟨sp, sb, sc, sf⟩ ⟨xp, xe, xs, xn, xb⟩) ⟨xp, xe, xs, xn, xb⟩) ⟨xp, xe, xs, xn, xb⟩) := by show _ = _; unfold asStep; rw [if_pos rfl]
        have HSA : Hid (asA ⟨sp, sb, sc, sf⟩ ⟨xp, xe, xs, xn, xb⟩ = if sp < 0 then ⟨xe, xs + xn, sc, sf⟩ else ⟨sp, sb, sc, sf⟩) := rfl
        obtain ⟨B1, hB1⟩ : ∃ B, decide (sp < 0) = B := ⟨_, rfl⟩
        go_upto_if 33 with fail
        generalize wr.alloc (.cells #[.int .i64 xb, .int .i64 0, .int .i64 xp, .int .i64 xe, .int .i64 xs, .slice (some ⟨gx, 0, none⟩) xn xn] 33) = W at *
        clear t0 t1 t2 t3 t4 t5 c0 c1 c2 c3 c4 c5
        obtain ⟨c0, c1, c2, c3, c4, c5⟩ := six HNX.out
        have t0 := cell_blk HYX.out 0 _ rfl
        have t1 := cell_blk HYX.out 1 _ rfl
        have t2 := cell_blk HYX.out 2 _ rfl
        have t3 := cell_blk HYX.out 3 _ rfl
        have t4 := cell_blk HYX.out 4 _ rfl
        have t5 := cell_blk HYX.out 5 _ rfl
        go_cut [9, 10] from 19 to 92 (fun s9 s10 wx => wx = W ∧ ∃ e1 b1 : Int, s9 = .int .i64 e1 ∧ s10 = .int .i64 b1 ∧ 0 ≤ e1 ∧ e1 ≤ 1000000000 ∧ 0 ≤ b1 ∧ b1 ≤ 2000000 ∧ Hid (asA ⟨sp, sb, sc, sf⟩ ⟨xp, xe, xs, xn, xb⟩ = ⟨e1, b1, sc, sf⟩))
        case first =>
          cases B1 with
          | true =>
            have h1 : sp < 0 := by simpa using hB1
            go_wp2_with fail
            go_meet
            case rel => exact ⟨rfl, xe, xs + xn, rfl, rfl, by omega, by omega, by omega, by omega, by show _ = _; rw [HSA.out, if_pos h1]⟩
          | false =>
            have h1 : ¬ sp < 0 := by simpa using hB1
            go_wp2_with fail
            go_meet
            case rel => exact ⟨rfl, sp, sb, rfl, rfl, by omega, by omega, by omega, by omega, by show _ = _; rw [HSA.out, if_neg (by omega)]⟩
        case rest =>
          obtain ⟨hwx, e1, b1, rfl, rfl, k1, k2, k3, k4, HE1⟩ := hcut
          have hwx' := hwx.symm
          subst hwx'
          clear hwx hB1
          have HSB : Hid (asB ⟨e1, b1, sc, sf⟩ ⟨xp, xe, xs, xn, xb⟩ = if xe = e1 then ⟨e1, b1, sc + 1, sf⟩ else ⟨e1, b1, sc, sf⟩) := rfl
          obtain ⟨B2, hB2⟩ : ∃ B, decide (xe = e1) = B := ⟨_, rfl⟩
          have hB2' : (xe == e1) = B2 := by rw [← hB2]; rfl
          go_upto_if 45 with fail
          go_cut [11] from 19 to 92 (fun s11 wx => wx = W ∧ ∃ n1 : Int, s11 = .int .i64 n1 ∧ 0 ≤ n1 ∧ n1 ≤ 1001 ∧ Hid (asB ⟨e1, b1, sc, sf⟩ ⟨xp, xe, xs, xn, xb⟩ = ⟨e1, b1, n1, sf⟩))
          case first =>
            cases B2 with
            | true =>
              have h1 : xe = e1 := by simpa using hB2
              have HH := hid h1
              clear h1 hB2 hB2'
              go_wp2_with fail
              go_meet
              case rel => exact ⟨rfl, sc + 1, rfl, by omega, by omega, by show _ = _; rw [HSB.out, if_pos HH.out]⟩
            | false =>
              have h1 : ¬ xe = e1 := by simpa using hB2
              go_wp2_with fail
              go_meet
              case rel => exact ⟨rfl, sc, rfl, by omega, by omega, by show _ = _; rw [HSB.out, if_neg h1]⟩
          case rest =>
            obtain ⟨hwx, n1, rfl, k5, k6, HE2⟩ := hcut
            have hwx' := hwx.symm
            subst hwx'
            clear hwx hB2 hB2'
            have HSC : Hid (asC ⟨xp, be, bs, bn, bb⟩ ⟨e1, b1, n1, sf⟩ ⟨xp, xe, xs, xn, xb⟩ = if xe = be ∧ xs = bs ∧ xn = bn ∧ e1 = be ∧ n1 ≤ 5 then ⟨e1, b1, n1, xb⟩ else ⟨e1, b1, n1, sf⟩) := rfl
            go_upto_region 15 with fail
            go_cut [78] from 19 to 92 (fun s78 wx => wx = W ∧ ∃ M : Bool, s78 = .bool M ∧ Hid (M = decide (xe = be ∧ xs = bs ∧ xn = bn ∧ e1 = be ∧ n1 ≤ 5)))
            case first =>
              by_cases m1 : xe = be
              · by_cases m2 : xs = bs
                · by_cases m3 : xn = bn
                  · by_cases m4 : e1 = be
                    · by_cases m5 : n1 ≤ 5
                      · have HM : Hid (true = decide (xe = be ∧ xs = bs ∧ xn = bn ∧ e1 = be ∧ n1 ≤ 5)) := by show _ = _; simp [m1, m2, m3, m4, m5]
                        subst m1 m2 m3 m4
                        go_wp2_with fail
                        go_meet
                        case rel => exact ⟨rfl, true, rfl, HM.out⟩
                      · have HM : Hid (false = decide (xe = be ∧ xs = bs ∧ xn = bn ∧ e1 = be ∧ n1 ≤ 5)) := by show _ = _; simp [m5]
                        subst m1 m2 m3 m4
                        go_wp2_with fail
                        go_meet
                        case rel => exact ⟨rfl, false, rfl, HM.out⟩
                    · have HM : Hid (false = decide (xe = be ∧ xs = bs ∧ xn = bn ∧ e1 = be ∧ n1 ≤ 5)) := by show _ = _; simp [m4]
                      have m4' : (e1 == be) = false := by simpa using m4
                      subst m1 m2 m3
                      go_wp2_with fail
                      go_meet
                      case rel => exact ⟨rfl, false, rfl, HM.out⟩
                  · have HM : Hid (false = decide (xe = be ∧ xs = bs ∧ xn = bn ∧ e1 = be ∧ n1 ≤ 5)) := by show _ = _; simp [m3]
                    have m3' : ((xn : Int) == (bn : Int)) = false := by simp; omega
                    subst m1 m2
                    go_wp2_with fail
                    go_meet
                    case rel => exact ⟨rfl, false, rfl, HM.out⟩
                · have HM : Hid (false = decide (xe = be ∧ xs = bs ∧ xn = bn ∧ e1 = be ∧ n1 ≤ 5)) := by show _ = _; simp [m2]
                  have m2' : (xs == bs) = false := by simpa using m2
                  subst m1
                  go_wp2_with fail
                  go_meet
                  case rel => exact ⟨rfl, false, rfl, HM.out⟩
              · have HM : Hid (false = decide (xe = be ∧ xs = bs ∧ xn = bn ∧ e1 = be ∧ n1 ≤ 5)) := by show _ = _; simp [m1]
                have m1' : (xe == be) = false := by simpa using m1
                go_wp2_with fail
                go_meet
                case rel => exact ⟨rfl, false, rfl, HM.out⟩
            case rest =>
              obtain ⟨hwx, M, rfl, HM⟩ := hcut
              have hwx' := hwx.symm
              subst hwx'
              clear hwx
              go_upto_if 78 with fail
              go_cut [12] from 19 to 92 (fun s12 wx => wx = W ∧ ∃ f1 : Int, s12 = .int .i64 f1 ∧ -1 ≤ f1 ∧ f1 ≤ 1000000000 ∧ Hid (asC ⟨xp, be, bs, bn, bb⟩ ⟨e1, b1, n1, sf⟩ ⟨xp, xe, xs, xn, xb⟩ = ⟨e1, b1, n1, f1⟩))
              case first =>
                cases M with
                | true =>
                  go_wp2_with fail
                  go_meet
                  case rel => exact ⟨rfl, xb, rfl, by omega, by omega, by show _ = _; rw [HSC.out, if_pos (of_decide_eq_true HM.out.symm)]⟩
                | false =>
                  go_wp2_with fail
                  go_meet
                  case rel => exact ⟨rfl, sf, rfl, by omega, by omega, by show _ = _; rw [HSC.out, if_neg (of_decide_eq_false HM.out.symm)]⟩
              case rest =>
                obtain ⟨hwx, f1, rfl, k7, k8, HE3⟩ := hcut
                have hwx' := hwx.symm
                subst hwx'
                clear hwx HM HSA HSB HSC
                have HO := hid (overlap_any ⟨xp, xe, xs, xn, xb⟩ ⟨xp, be, bs, bn, bb⟩ gx gb W ⟨hx2.1, hx2.2, hx3⟩ ⟨hb3.1, hb3.2, hb4⟩)
                have HF : Hid (asAll ⟨xp, be, bs, bn, bb⟩ ((ls.drop j).map (·.1)) = ⟨e1, b1, n1, f1⟩) := by show _ = _; rw [HSt.out, HS1.out, HE1.out, HE2.out, HE3.out]
                obtain ⟨OV, hOV⟩ : ∃ B, overB2 ⟨xp, xe, xs, xn, xb⟩ ⟨xp, be, bs, bn, bb⟩ = B := ⟨_, rfl⟩
                simp only at HO
                rw [hOV] at HO HXN
                clear hOV HSt HS1 HE1 HE2 HE3
                go_wp2_with fail
                refine HO.out.mono ?_
                rintro en w2 ⟨rfl, hb2w⟩
                have HN2 := hid (HNX.out.next hb2w)
                clear hb2w HO
                cases OV with
                | false =>
                  go_wp2_with fail
                  go_roundg j
                  case measure => omega
                  case rel => exact ⟨j, ⟨e1, b1, n1, f1⟩, by omega, Nat.le_refl _, by go_num, rfl, rfl, rfl, rfl, HF.out.symm, HN2.out⟩
                | true =>
                  have hn := HXN.out rfl
                  by_cases h0e : e = 0
                  · subst h0e
                    have hat : ¬ at_ < 0 := fun h => hn ⟨rfl, h⟩
                    clear hn
                    go_wp2_with fail
                    go_roundg j
                    case measure => omega
                    case rel => exact ⟨j, ⟨e1, b1, n1, f1⟩, by omega, Nat.le_refl _, by go_num, rfl, rfl, rfl, rfl, HF.out.symm, HN2.out⟩
                  · have h0e' : (e == 0) = false := by simpa using h0e
                    clear hn
                    go_wp2_with fail
                    go_roundg j
                    case measure => omega
                    case rel => exact ⟨j, ⟨e1, b1, n1, f1⟩, by omega, Nat.le_refl _, by go_num, rfl, rfl, rfl, rfl, HF.out.symm, HN2.out⟩
      · have HS1 : Hid (asStep ⟨bp, be, bs, bn, bb⟩ ⟨sp, sb, sc, sf⟩ ⟨xp, xe, xs, xn, xb⟩ = ⟨sp, sb, sc, sf⟩) := by show _ = _; unfold asStep; rw [if_neg hpp]
        have hpp' : (xp != bp) = true := by simpa using hpp
        go_wp2_with fail
        go_roundg j
        case measure => omega
        case rel => exact ⟨j, ⟨sp, sb, sc, sf⟩, by omega, Nat.le_refl _, by go_num, rfl, rfl, rfl, rfl, by rw [HSt.out, HS1.out], HNX.out⟩
end Go.Proofs.Ytkdbclnnmpnfgaa

