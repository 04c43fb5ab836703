/- find: what becomes of a run. -/
import Derived.Test.YtkdbclnnmpnfgaaH7
namespace Go.Proofs.Ytkdbclnnmpnfgaa
open Go.RowKit Go.Maps
set_option maxRecDepth 100000
set_option linter.unusedSimpArgs false
set_option linter.unusedVariables false

theorem hit_none (l : List Nt) (ep seq n : Int) (h : ∀ (i : Nat) y, l[l.length - 5 + i]? = some y → isRun ep seq n y = false) : hitL l ep seq n = none := by
  unfold hitL
  rw [List.find?_eq_none]
  intro y hy
  obtain ⟨i, hi, e⟩ := List.getElem_of_mem hy
  have := h i y (by rw [← List.getElem?_drop]; rw [← e]; simp)
  simp [this]
theorem hit_at (l : List Nt) (ep seq n : Int) (j : Nat) (x : Nt) (hx : l[l.length - 5 + j]? = some x) (hm : isRun ep seq n x = true) (h : ∀ (i : Nat) y, i < j → l[l.length - 5 + i]? = some y → isRun ep seq n y = false) : hitL l ep seq n = some x := by
  unfold hitL
  rw [← List.getElem?_drop] at hx
  simp only [← List.getElem?_drop] at h
  generalize l.drop (l.length - 5) = m at *
  have hj := (List.getElem?_eq_some_iff.1 hx).1
  have e : m = m.take j ++ (x :: m.drop (j + 1)) := by
    conv => lhs; rw [← List.take_append_drop j m]
    rw [List.drop_eq_getElem_cons hj]
    have := (List.getElem?_eq_some_iff.1 hx).2
    rw [this]
  rw [e, List.find?_append]
  have h0 : (m.take j).find? (isRun ep seq n) = none := by
    rw [List.find?_eq_none]
    intro y hy
    obtain ⟨i, hi, e⟩ := List.getElem_of_mem hy
    rw [List.length_take] at hi
    have := h i y (by omega) (by rw [← e, List.getElem_take]; simp <;> omega)
    simp [this]
  rw [h0]
  simp [List.find?_cons, hm]

set_option maxHeartbeats 800000 in
theorem find_nil (w : World) (cap : Nat) (ep seq n : Int) :
    Calls Try.prog 35 #[.slice none 0 0, .agg #[.int .i64 ep, .int .i64 seq, .int .i64 n]] w fun e w' => e = .returned (.tuple #[.int .i64 (findL [] ep seq n).1, .int .i64 (findL [] ep seq n).2]) ∧ Below w.heap.size w w' := by
  by_cases h0 : seq = 0
  · have HF : Hid (findL [] ep seq n = (-1, 0)) := by show _ = _; simp [findL, oldB, hitL, nextL, h0]
    subst h0
    go_enter Try.func35, Try.ntmps35
    go_wp2_with fail
    refine wp_loop_rounds 1 ?_
    rw [rounds_succ]
    go_wp2_with fail
    go_ret2
    exact ⟨by rw [HF.out]; rfl, (Below.refl _ _).alloc (Nat.le_refl _) _⟩
  · by_cases h1 : 0 < seq
    · have HF : Hid (findL [] ep seq n = (-1, 11)) := by show _ = _; simp [findL, oldB, hitL, nextL, h0, h1]
      go_enter Try.func35, Try.ntmps35
      go_wp2_with fail
      refine wp_loop_rounds 1 ?_
      rw [rounds_succ]
      go_wp2_with fail
      go_ret2
      exact ⟨by rw [HF.out]; rfl, (Below.refl _ _).alloc (Nat.le_refl _) _⟩
    · have HF : Hid (findL [] ep seq n = (-1, 12)) := by show _ = _; simp [findL, oldB, hitL, nextL, h0, h1]
      go_enter Try.func35, Try.ntmps35
      go_wp2_with fail
      refine wp_loop_rounds 1 ?_
      rw [rounds_succ]
      go_wp2_with fail
      go_ret2
      exact ⟨by rw [HF.out]; rfl, (Below.refl _ _).alloc (Nat.le_refl _) _⟩

set_option maxHeartbeats 1000000 in
theorem eql62 (x : Nt) (ep seq n : Int) (w : World) : (binOp .eql 62 (.agg #[.int .i64 x.ep, .int .i64 x.seq, .int .i64 x.n]) (.agg #[.int .i64 ep, .int .i64 seq, .int .i64 n])).run Try.prog w = .ok (.bool (isRun ep seq n x)) w := by
  rw [run_eql_struct, run_equalIn_agg w 9999 62 _ _ (by kernel_rfl) (by kernel_rfl)]
  obtain ⟨a, b, c, d⟩ := x
  unfold isRun
  by_cases h1 : a = ep <;> by_cases h2 : b = seq <;> by_cases h3 : c = n <;> simp [go_sem, h1, h2, h3]

theorem tup2 {a b c d : Int} (h1 : a = c) (h2 : b = d) : Ending.returned (.tuple #[.int .i64 a, .int .i64 b]) = .returned (.tuple #[.int .i64 c, .int .i64 d]) := by rw [h1, h2]

set_option maxHeartbeats 6400000 in
theorem find_some {w : World} {g cap : Nat} {l : List Nt} (h : NL w (.slice (some ⟨g, 0, none⟩) l.length cap) l) (hl : LOk l) (hlen : l.length ≤ 100000) (hcap : l.length ≤ cap) (y : Nt) (hlast : l[l.length - 1]? = some y)
    (ep seq n : Int) (hep : 0 ≤ ep ∧ ep ≤ 1000000000) (hseq : 0 ≤ seq ∧ seq ≤ 1000000000) :
    Calls Try.prog 35 #[.slice (some ⟨g, 0, none⟩) l.length cap, .agg #[.int .i64 ep, .int .i64 seq, .int .i64 n]] w fun e w' => e = .returned (.tuple #[.int .i64 (findL l ep seq n).1, .int .i64 (findL l ep seq n).2]) ∧ Below w.heap.size w w' := by
  have hpos : 0 < l.length := by cases l with | nil => simp at hlast | cons y r => simp
  obtain ⟨r0, r1, r2, r3⟩ := h.at_ _ _ hlast
  have hgw : g < w.heap.size := h.lt g rfl
  have hy := hl.all y (List.mem_of_getElem? hlast)
  have HN := hid h
  have HO : Hid (oldB l ep = decide (ep < y.ep)) := by show _ = _; unfold oldB; rw [hlast]
  have HX : Hid (nextL l ep = if ep = y.ep then y.seq + y.n else 0) := by show _ = _; unfold nextL; rw [hlast]
  have HH1 := hid (hit_none l ep seq n)
  have HH2 := hid (hit_at l ep seq n)
  have HA := hid hl.all
  have HFd : Hid (findL l ep seq n = if oldB l ep = true then ((-1, 13) : Int × Int) else match hitL l ep seq n with | some x => (x.off, 0) | none => if seq = nextL l ep then (-1, 0) else if nextL l ep < seq then (-1, 11) else (-1, 12)) := rfl
  obtain ⟨N, hN1⟩ : ∃ N, l.length = N + 1 := ⟨l.length - 1, by omega⟩
  have hn2 : l.length - 1 = N := by omega
  rw [hn2] at r0 r1 r2 r3
  obtain ⟨k, hk⟩ : ∃ k, l.length - 5 = k := ⟨_, rfl⟩
  rw [hk] at HH1 HH2
  have HLn : Hid (l.length = N + 1) := hN1
  rw [hN1] at hcap hlen hk ⊢
  have hn3 : IntKind.i64.wrap ((N : Int) + 1 - 1) = (N : Int) := by rw [IntWalk.i64_in _ (by omega)]; omega
  have hn4 : IntKind.i64.wrap (N : Int) = (N : Int) := IntWalk.i64_in _ (by omega)
  have hn5 : (N : Int) < (N : Int) + 1 := by omega
  have hne : ¬ ((N : Int) + 1 = 0) := by omega
  have hk1 : k ≤ N := by omega
  have hk3 : (k : Int) ≤ (N : Int) + 1 := by omega
  obtain ⟨ye, ys, yn, yo⟩ := y
  have hy1 := hy.ep; have hy2 := hy.n; have hy3 := hy.seq; have hy4 := hy.off
  simp only at *
  have HE := hid eql62
  clear hn2 hlast h hl hy hN1 hpos
  have HKk := hid hk
  clear hk
  by_cases hold : ep < ye
  · have HF : Hid (findL l ep seq n = (-1, 13)) := by show _ = _; rw [HFd.out, HO.out]; simp [hold]
    go_enter Try.func35, Try.ntmps35
    go_wp2_with fail
    go_ret2
    exact ⟨by rw [HF.out]; rfl, ((Below.refl _ _).alloc (Nat.le_refl _) _).alloc (by simp) _⟩
  · have HF0 : Hid (findL l ep seq n = match hitL l ep seq n with | some x => ((x.off, 0) : Int × Int) | none => if seq = nextL l ep then (-1, 0) else if nextL l ep < seq then (-1, 11) else (-1, 12)) := by
      show _ = _; rw [HFd.out, HO.out]; simp [hold]
    obtain ⟨q0, q1, hbW, hsW⟩ := world2 w (.cells #[.int .i64 ep, .int .i64 seq, .int .i64 n] 62) (.cells #[.int .i64 ye, .int .i64 ys, .int .i64 yn] 62)
    have HQ0 := hid q0
    have HBW := hid hbW
    have HSW := hid hsW
    clear q0 q1 hbW hsW
    by_cases h4 : 5 ≤ N
    · have ka : (N : Int) + 1 - 5 = (k : Int) := by have := HKk.out; omega
      have ka2 : (0 : Int) < (k : Int) := by omega
      have ka3 : ¬ ((k : Int) < 0) := by omega
      have ka4 : ¬ ((k : Int) ≤ 0) := by omega
      by_cases hsame : ep = ye
      · subst hsame
        have HXn : Hid (nextL l ep = ys + yn) := by show _ = _; rw [HX.out, if_pos rfl]
        have hbnd : 0 ≤ ys + yn ∧ ys + yn ≤ 2000000 := by omega
        go_enter Try.func35, Try.ntmps35
        go_wp2_with (go_at_call 60; refine (next_any _ _ _ _ (by omega) (by omega)).mono ?_; rintro e W0 ⟨rfl, hb2⟩)
        have HB0 := hid (HBW.out.trans (hb2.mono HBW.out.size))
        have hW0 := HB0.out.size
        have hs0 := hb2.size
        rw [HSW.out] at hs0
        have HQ0' := HQ0
        clear HQ0
        have HQ0 := hid ((hb2.block w.heap.size (by rw [HSW.out]; omega)).trans HQ0'.out)
        clear HQ0' hb2
        generalize ys + yn = nx at *
        have HB2 : Hid (∀ W', Below W0.heap.size W0 W' → W'.cell? ⟨w.heap.size, 0, none⟩ = some (.int .i64 ep) ∧ W'.cell? ⟨w.heap.size, 1, none⟩ = some (.int .i64 seq) ∧ W'.cell? ⟨w.heap.size, 2, none⟩ = some (.int .i64 n)) := fun W' hb => by
          have hq := (hb.block w.heap.size (by omega)).trans HQ0.out
          exact ⟨cell_blk hq 0 _ rfl, cell_blk hq 1 _ rfl, cell_blk hq 2 _ rfl⟩
        go_loopg [39] (N + 1 - k) (fun kx s39 wr => ∃ j : Nat, j ≤ N + 1 - k ∧ N + 1 - k - j ≤ kx ∧ s39 = .int .i64 (j : Int) ∧ Hid (Below W0.heap.size W0 wr ∧ ∀ (i : Nat) y, i < j → l[k + i]? = some y → isRun ep seq n y = false))
        case atStart => exact ⟨0, Nat.zero_le _, by omega, rfl, Below.refl _ _, fun i y hi => by omega⟩
        case round =>
          obtain ⟨j, hj, hkx, rfl, HJ⟩ := hrel
          by_cases hlt : j < N + 1 - k
          · have hxl : k + j < l.length := by have := HLn.out; omega
            have hx : l[k + j]? = some l[k + j] := List.getElem?_eq_getElem hxl
            have hok := HA.out l[k + j] (List.getElem_mem hxl)
            obtain ⟨t0, t1, t2, t3⟩ := (HN.out.under (HB0.out.trans (HJ.out.1.mono hW0))).at_ (k + j) _ hx
            have HXx := hid hx
            clear hx
            generalize l[k + j] = X at *
            have HEx := HE.out X ep seq n
            obtain ⟨xe, xs, xn, xo⟩ := X
            simp only at *
            have hj' : (j : Int) < ((N + 1 - k : Nat) : Int) := by omega
            have ek : (k + j) * 4 = k * 4 + j * 4 := by omega
            rw [ek] at t0 t1 t2 t3
            have u0 := (HB2.out _ HJ.out.1).1
            have u1 := (HB2.out _ HJ.out.1).2.1
            have u2 := (HB2.out _ HJ.out.1).2.2
            have hwr := HJ.out.1.size
            have hww : w.heap.size < wr.heap.size := by omega
            have hgr : g < wr.heap.size := by omega
            skip
            cases hm : isRun ep seq n ⟨xe, xs, xn, xo⟩ with
            | true =>
              rw [hm] at HEx
              have HF : Hid (findL l ep seq n = (xo, 0)) := by show _ = _; rw [HF0.out, HH2.out j _ HXx.out hm HJ.out.2]
              clear hm
              go_wp2_with fail
              go_ret2
              exact ⟨by rw [HF.out]; rfl, HB0.out.trans ((HJ.out.1.alloc hwr _).mono hW0)⟩
            | false =>
              rw [hm] at HEx
              have HM := hid hm
              clear hm
              go_wp2_with fail
              go_roundg (N + 1 - k - (j + 1))
              case measure => omega
              case rel => exact ⟨j + 1, by omega, Nat.le_refl _, by go_num, HJ.out.1.alloc hwr _, fun i y hi hy => by
                rcases Nat.lt_or_ge i j with h1 | h1
                · exact HJ.out.2 i y h1 hy
                · have e1 : i = j := by omega
                  subst e1
                  rw [HXx.out] at hy
                  cases hy
                  exact HM.out⟩
          · have hj' : ¬ (j : Int) < ((N + 1 - k : Nat) : Int) := by omega
            have u1 := (HB2.out _ HJ.out.1).2.1
            have HF1 : Hid (findL l ep seq n = if seq = nx then ((-1, 0) : Int × Int) else if nx < seq then (-1, 11) else (-1, 12)) := by
              show _ = _
              rw [HF0.out, HH1.out (fun i y hy => HJ.out.2 i y (by have h1 := (List.getElem?_eq_some_iff.1 hy).1; have h2 := HLn.out; omega) hy), HXn.out]
            skip
            by_cases hs1 : seq = nx
            · have HF : Hid (findL l ep seq n = (-1, 0)) := by show _ = _; rw [HF1.out, if_pos hs1]
              subst hs1
              go_wp2_with fail
              go_ret2
              exact ⟨by rw [HF.out]; rfl, HB0.out.trans (HJ.out.1.mono hW0)⟩
            · by_cases hs2 : nx < seq
              · have HF : Hid (findL l ep seq n = (-1, 11)) := by show _ = _; rw [HF1.out, if_neg hs1, if_pos hs2]
                go_wp2_with fail
                go_ret2
                exact ⟨by rw [HF.out]; rfl, HB0.out.trans (HJ.out.1.mono hW0)⟩
              · have HF : Hid (findL l ep seq n = (-1, 12)) := by show _ = _; rw [HF1.out, if_neg hs1, if_neg hs2]
                go_wp2_with fail
                go_ret2
                exact ⟨by rw [HF.out]; rfl, HB0.out.trans (HJ.out.1.mono hW0)⟩
      · have HXn : Hid (nextL l ep = 0) := by show _ = _; rw [HX.out, if_neg hsame]
        go_enter Try.func35, Try.ntmps35
        go_wp2_with fail
        have HB0 := HBW
        have hs0 := HSW.out
        generalize (w.alloc (.cells #[.int .i64 ep, .int .i64 seq, .int .i64 n] 62)).alloc (.cells #[.int .i64 ye, .int .i64 ys, .int .i64 yn] 62) = W0 at *
        have hW0 := HB0.out.size
        have HQ0' := HQ0
        have HB2 : Hid (∀ W', Below W0.heap.size W0 W' → W'.cell? ⟨w.heap.size, 0, none⟩ = some (.int .i64 ep) ∧ W'.cell? ⟨w.heap.size, 1, none⟩ = some (.int .i64 seq) ∧ W'.cell? ⟨w.heap.size, 2, none⟩ = some (.int .i64 n)) := fun W' hb => by
          have hq := (hb.block w.heap.size (by omega)).trans HQ0.out
          exact ⟨cell_blk hq 0 _ rfl, cell_blk hq 1 _ rfl, cell_blk hq 2 _ rfl⟩
        go_loopg [39] (N + 1 - k) (fun kx s39 wr => ∃ j : Nat, j ≤ N + 1 - k ∧ N + 1 - k - j ≤ kx ∧ s39 = .int .i64 (j : Int) ∧ Hid (Below W0.heap.size W0 wr ∧ ∀ (i : Nat) y, i < j → l[k + i]? = some y → isRun ep seq n y = false))
        case atStart => exact ⟨0, Nat.zero_le _, by omega, rfl, Below.refl _ _, fun i y hi => by omega⟩
        case round =>
          obtain ⟨j, hj, hkx, rfl, HJ⟩ := hrel
          by_cases hlt : j < N + 1 - k
          · have hxl : k + j < l.length := by have := HLn.out; omega
            have hx : l[k + j]? = some l[k + j] := List.getElem?_eq_getElem hxl
            have hok := HA.out l[k + j] (List.getElem_mem hxl)
            obtain ⟨t0, t1, t2, t3⟩ := (HN.out.under (HB0.out.trans (HJ.out.1.mono hW0))).at_ (k + j) _ hx
            have HXx := hid hx
            clear hx
            generalize l[k + j] = X at *
            have HEx := HE.out X ep seq n
            obtain ⟨xe, xs, xn, xo⟩ := X
            simp only at *
            have hj' : (j : Int) < ((N + 1 - k : Nat) : Int) := by omega
            have ek : (k + j) * 4 = k * 4 + j * 4 := by omega
            rw [ek] at t0 t1 t2 t3
            have u0 := (HB2.out _ HJ.out.1).1
            have u1 := (HB2.out _ HJ.out.1).2.1
            have u2 := (HB2.out _ HJ.out.1).2.2
            have hwr := HJ.out.1.size
            have hww : w.heap.size < wr.heap.size := by omega
            have hgr : g < wr.heap.size := by omega
            skip
            cases hm : isRun ep seq n ⟨xe, xs, xn, xo⟩ with
            | true =>
              rw [hm] at HEx
              have HF : Hid (findL l ep seq n = (xo, 0)) := by show _ = _; rw [HF0.out, HH2.out j _ HXx.out hm HJ.out.2]
              clear hm
              go_wp2_with fail
              go_ret2
              exact ⟨by rw [HF.out]; rfl, HB0.out.trans ((HJ.out.1.alloc hwr _).mono hW0)⟩
            | false =>
              rw [hm] at HEx
              have HM := hid hm
              clear hm
              go_wp2_with fail
              go_roundg (N + 1 - k - (j + 1))
              case measure => omega
              case rel => exact ⟨j + 1, by omega, Nat.le_refl _, by go_num, HJ.out.1.alloc hwr _, fun i y hi hy => by
                rcases Nat.lt_or_ge i j with h1 | h1
                · exact HJ.out.2 i y h1 hy
                · have e1 : i = j := by omega
                  subst e1
                  rw [HXx.out] at hy
                  cases hy
                  exact HM.out⟩
          · have hj' : ¬ (j : Int) < ((N + 1 - k : Nat) : Int) := by omega
            have u1 := (HB2.out _ HJ.out.1).2.1
            have HF1 : Hid (findL l ep seq n = if seq = 0 then ((-1, 0) : Int × Int) else if 0 < seq then (-1, 11) else (-1, 12)) := by
              show _ = _
              rw [HF0.out, HH1.out (fun i y hy => HJ.out.2 i y (by have h1 := (List.getElem?_eq_some_iff.1 hy).1; have h2 := HLn.out; omega) hy), HXn.out]
            skip
            by_cases hs1 : seq = 0
            · have HF : Hid (findL l ep seq n = (-1, 0)) := by show _ = _; rw [HF1.out, if_pos hs1]
              subst hs1
              go_wp2_with fail
              go_ret2
              exact ⟨by rw [HF.out]; rfl, HB0.out.trans (HJ.out.1.mono hW0)⟩
            · by_cases hs2 : 0 < seq
              · have HF : Hid (findL l ep seq n = (-1, 11)) := by show _ = _; rw [HF1.out, if_neg hs1, if_pos hs2]
                go_wp2_with fail
                go_ret2
                exact ⟨by rw [HF.out]; rfl, HB0.out.trans (HJ.out.1.mono hW0)⟩
              · have HF : Hid (findL l ep seq n = (-1, 12)) := by show _ = _; rw [HF1.out, if_neg hs1, if_neg hs2]
                exfalso; omega
    · have k0 : k = 0 := by have := HKk.out; omega
      subst k0
      have ka : (N : Int) + 1 - 5 ≤ 0 := by omega
      have ka2 : ¬ (0 < (N : Int) + 1 - 5) := by omega
      simp only [Nat.zero_add] at HH1 HH2
      clear hk1 hk3
      by_cases hsame : ep = ye
      · subst hsame
        have HXn : Hid (nextL l ep = ys + yn) := by show _ = _; rw [HX.out, if_pos rfl]
        have hbnd : 0 ≤ ys + yn ∧ ys + yn ≤ 2000000 := by omega
        go_enter Try.func35, Try.ntmps35
        go_wp2_with (go_at_call 60; refine (next_any _ _ _ _ (by omega) (by omega)).mono ?_; rintro e W0 ⟨rfl, hb2⟩)
        have HB0 := hid (HBW.out.trans (hb2.mono HBW.out.size))
        have hW0 := HB0.out.size
        have hs0 := hb2.size
        rw [HSW.out] at hs0
        have HQ0' := HQ0
        clear HQ0
        have HQ0 := hid ((hb2.block w.heap.size (by rw [HSW.out]; omega)).trans HQ0'.out)
        clear HQ0' hb2
        generalize ys + yn = nx at *
        have HB2 : Hid (∀ W', Below W0.heap.size W0 W' → W'.cell? ⟨w.heap.size, 0, none⟩ = some (.int .i64 ep) ∧ W'.cell? ⟨w.heap.size, 1, none⟩ = some (.int .i64 seq) ∧ W'.cell? ⟨w.heap.size, 2, none⟩ = some (.int .i64 n)) := fun W' hb => by
          have hq := (hb.block w.heap.size (by omega)).trans HQ0.out
          exact ⟨cell_blk hq 0 _ rfl, cell_blk hq 1 _ rfl, cell_blk hq 2 _ rfl⟩
        go_loopg [39] (N + 1) (fun kx s39 wr => ∃ j : Nat, j ≤ N + 1 ∧ N + 1 - j ≤ kx ∧ s39 = .int .i64 (j : Int) ∧ Hid (Below W0.heap.size W0 wr ∧ ∀ (i : Nat) y, i < j → l[i]? = some y → isRun ep seq n y = false))
        case atStart => exact ⟨0, Nat.zero_le _, by omega, rfl, Below.refl _ _, fun i y hi => by omega⟩
        case round =>
          obtain ⟨j, hj, hkx, rfl, HJ⟩ := hrel
          by_cases hlt : j < N + 1
          · have hxl : j < l.length := by have := HLn.out; omega
            have hx : l[j]? = some l[j] := List.getElem?_eq_getElem hxl
            have hok := HA.out l[j] (List.getElem_mem hxl)
            obtain ⟨t0, t1, t2, t3⟩ := (HN.out.under (HB0.out.trans (HJ.out.1.mono hW0))).at_ (j) _ hx
            have HXx := hid hx
            clear hx
            generalize l[j] = X at *
            have HEx := HE.out X ep seq n
            obtain ⟨xe, xs, xn, xo⟩ := X
            simp only at *
            have hj' : (j : Int) < (N : Int) + 1 := by omega
            skip
            have u0 := (HB2.out _ HJ.out.1).1
            have u1 := (HB2.out _ HJ.out.1).2.1
            have u2 := (HB2.out _ HJ.out.1).2.2
            have hwr := HJ.out.1.size
            have hww : w.heap.size < wr.heap.size := by omega
            have hgr : g < wr.heap.size := by omega
            cases hm : isRun ep seq n ⟨xe, xs, xn, xo⟩ with
            | true =>
              rw [hm] at HEx
              have HF : Hid (findL l ep seq n = (xo, 0)) := by show _ = _; rw [HF0.out, HH2.out j _ HXx.out hm HJ.out.2]
              clear hm
              go_wp2_with fail
              go_ret2
              exact ⟨by rw [HF.out]; rfl, HB0.out.trans ((HJ.out.1.alloc hwr _).mono hW0)⟩
            | false =>
              rw [hm] at HEx
              have HM := hid hm
              clear hm
              go_wp2_with fail
              go_roundg (N + 1 - (j + 1))
              case measure => omega
              case rel => exact ⟨j + 1, by omega, Nat.le_refl _, by go_num, HJ.out.1.alloc hwr _, fun i y hi hy => by
                rcases Nat.lt_or_ge i j with h1 | h1
                · exact HJ.out.2 i y h1 hy
                · have e1 : i = j := by omega
                  subst e1
                  rw [HXx.out] at hy
                  cases hy
                  exact HM.out⟩
          · have hj' : ¬ (j : Int) < (N : Int) + 1 := by omega
            have u1 := (HB2.out _ HJ.out.1).2.1
            have HF1 : Hid (findL l ep seq n = if seq = nx then ((-1, 0) : Int × Int) else if nx < seq then (-1, 11) else (-1, 12)) := by
              show _ = _
              rw [HF0.out, HH1.out (fun i y hy => HJ.out.2 i y (by have h1 := (List.getElem?_eq_some_iff.1 hy).1; have h2 := HLn.out; omega) hy), HXn.out]
            by_cases hs1 : seq = nx
            · have HF : Hid (findL l ep seq n = (-1, 0)) := by show _ = _; rw [HF1.out, if_pos hs1]
              subst hs1
              go_wp2_with fail
              go_ret2
              exact ⟨by rw [HF.out]; rfl, HB0.out.trans (HJ.out.1.mono hW0)⟩
            · by_cases hs2 : nx < seq
              · have HF : Hid (findL l ep seq n = (-1, 11)) := by show _ = _; rw [HF1.out, if_neg hs1, if_pos hs2]
                go_wp2_with fail
                go_ret2
                exact ⟨by rw [HF.out]; rfl, HB0.out.trans (HJ.out.1.mono hW0)⟩
              · have HF : Hid (findL l ep seq n = (-1, 12)) := by show _ = _; rw [HF1.out, if_neg hs1, if_neg hs2]
                go_wp2_with fail
                go_ret2
                exact ⟨by rw [HF.out]; rfl, HB0.out.trans (HJ.out.1.mono hW0)⟩
      · have HXn : Hid (nextL l ep = 0) := by show _ = _; rw [HX.out, if_neg hsame]
        go_enter Try.func35, Try.ntmps35
        go_wp2_with fail
        have HB0 := HBW
        have hs0 := HSW.out
        generalize (w.alloc (.cells #[.int .i64 ep, .int .i64 seq, .int .i64 n] 62)).alloc (.cells #[.int .i64 ye, .int .i64 ys, .int .i64 yn] 62) = W0 at *
        have hW0 := HB0.out.size
        have HQ0' := HQ0
        have HB2 : Hid (∀ W', Below W0.heap.size W0 W' → W'.cell? ⟨w.heap.size, 0, none⟩ = some (.int .i64 ep) ∧ W'.cell? ⟨w.heap.size, 1, none⟩ = some (.int .i64 seq) ∧ W'.cell? ⟨w.heap.size, 2, none⟩ = some (.int .i64 n)) := fun W' hb => by
          have hq := (hb.block w.heap.size (by omega)).trans HQ0.out
          exact ⟨cell_blk hq 0 _ rfl, cell_blk hq 1 _ rfl, cell_blk hq 2 _ rfl⟩
        go_loopg [39] (N + 1) (fun kx s39 wr => ∃ j : Nat, j ≤ N + 1 ∧ N + 1 - j ≤ kx ∧ s39 = .int .i64 (j : Int) ∧ Hid (Below W0.heap.size W0 wr ∧ ∀ (i : Nat) y, i < j → l[i]? = some y → isRun ep seq n y = false))
        case atStart => exact ⟨0, Nat.zero_le _, by omega, rfl, Below.refl _ _, fun i y hi => by omega⟩
        case round =>
          obtain ⟨j, hj, hkx, rfl, HJ⟩ := hrel
          by_cases hlt : j < N + 1
          · have hxl : j < l.length := by have := HLn.out; omega
            have hx : l[j]? = some l[j] := List.getElem?_eq_getElem hxl
            have hok := HA.out l[j] (List.getElem_mem hxl)
            obtain ⟨t0, t1, t2, t3⟩ := (HN.out.under (HB0.out.trans (HJ.out.1.mono hW0))).at_ (j) _ hx
            have HXx := hid hx
            clear hx
            generalize l[j] = X at *
            have HEx := HE.out X ep seq n
            obtain ⟨xe, xs, xn, xo⟩ := X
            simp only at *
            have hj' : (j : Int) < (N : Int) + 1 := by omega
            skip
            have u0 := (HB2.out _ HJ.out.1).1
            have u1 := (HB2.out _ HJ.out.1).2.1
            have u2 := (HB2.out _ HJ.out.1).2.2
            have hwr := HJ.out.1.size
            have hww : w.heap.size < wr.heap.size := by omega
            have hgr : g < wr.heap.size := by omega
            cases hm : isRun ep seq n ⟨xe, xs, xn, xo⟩ with
            | true =>
              rw [hm] at HEx
              have HF : Hid (findL l ep seq n = (xo, 0)) := by show _ = _; rw [HF0.out, HH2.out j _ HXx.out hm HJ.out.2]
              clear hm
              go_wp2_with fail
              go_ret2
              exact ⟨by rw [HF.out]; rfl, HB0.out.trans ((HJ.out.1.alloc hwr _).mono hW0)⟩
            | false =>
              rw [hm] at HEx
              have HM := hid hm
              clear hm
              go_wp2_with fail
              go_roundg (N + 1 - (j + 1))
              case measure => omega
              case rel => exact ⟨j + 1, by omega, Nat.le_refl _, by go_num, HJ.out.1.alloc hwr _, fun i y hi hy => by
                rcases Nat.lt_or_ge i j with h1 | h1
                · exact HJ.out.2 i y h1 hy
                · have e1 : i = j := by omega
                  subst e1
                  rw [HXx.out] at hy
                  cases hy
                  exact HM.out⟩
          · have hj' : ¬ (j : Int) < (N : Int) + 1 := by omega
            have u1 := (HB2.out _ HJ.out.1).2.1
            have HF1 : Hid (findL l ep seq n = if seq = 0 then ((-1, 0) : Int × Int) else if 0 < seq then (-1, 11) else (-1, 12)) := by
              show _ = _
              rw [HF0.out, HH1.out (fun i y hy => HJ.out.2 i y (by have h1 := (List.getElem?_eq_some_iff.1 hy).1; have h2 := HLn.out; omega) hy), HXn.out]
            by_cases hs1 : seq = 0
            · have HF : Hid (findL l ep seq n = (-1, 0)) := by show _ = _; rw [HF1.out, if_pos hs1]
              subst hs1
              go_wp2_with fail
              go_ret2
              exact ⟨by rw [HF.out]; rfl, HB0.out.trans (HJ.out.1.mono hW0)⟩
            · by_cases hs2 : 0 < seq
              · have HF : Hid (findL l ep seq n = (-1, 11)) := by show _ = _; rw [HF1.out, if_neg hs1, if_pos hs2]
                go_wp2_with fail
                go_ret2
                exact ⟨by rw [HF.out]; rfl, HB0.out.trans (HJ.out.1.mono hW0)⟩
              · have HF : Hid (findL l ep seq n = (-1, 12)) := by show _ = _; rw [HF1.out, if_neg hs1, if_neg hs2]
                exfalso; omega
end Go.Proofs.Ytkdbclnnmpnfgaa

