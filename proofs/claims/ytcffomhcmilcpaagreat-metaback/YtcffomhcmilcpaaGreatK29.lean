/- in, sameList, pick, known. -/
import Derived.Test.YtcffomhcmilcpaaGreatK6
import Derived.Test.YtcffomhcmilcpaaGreatK18
import Derived.Test.YtcffomhcmilcpaaGreatK28
namespace Go.Proofs.YtcffomhcmilcpaaGreat
open Go.RowKit Go.Maps
set_option linter.unusedSimpArgs false
set_option linter.unusedVariables false
set_option maxRecDepth 100000

set_option maxHeartbeats 1600000 in
theorem in_any {w : World} {v : Value} {l : List Int} (h : IL w v l) (x : Int) (hx : I64 x) : Calls Tryz.prog 25 #[v, .int .i64 x] w fun e w' => e = .returned (.bool (hasB l x)) ∧ w = w' := by
  obtain ⟨⟨a, cap, rfl, hcap, hcm, hnn, hat⟩, hok, hfew⟩ := h
  have HA := hid hat
  have HOK := hid hok
  have hlen : l.length ≤ 9223372036854775807 := by omega
  clear hat hok hnn hcap hcm
  go_enter Tryz.func25, Tryz.ntmps25
  go_wp2_with fail
  go_loopg [5] l.length (fun kx s5 wr => ∃ k : Nat, k ≤ l.length ∧ l.length - k ≤ kx ∧ s5 = .int .i64 (k : Int) ∧ Hid (x ∉ l.take k) ∧ wr = w)
  case atStart => exact ⟨0, Nat.zero_le _, by omega, rfl, by show _ ∉ _; simp, rfl⟩
  case round =>
    obtain ⟨k, hk, hkx, rfl, HM, rfl⟩ := hrel
    by_cases hlt : k < l.length
    · obtain ⟨b, off, rfl, hb, hc⟩ := HA.out (by intro e; rw [e] at hlt; simp at hlt)
      have hck := hc k hlt
      have hok := HOK.out l[k] (by simp)
      unfold I64 at hok
      have HT : Hid (l.take (k + 1) = l.take k ++ [l[k]]) := List.take_succ_eq_append_getElem hlt
      have HG : Hid (l[k] ∈ l) := by show _ ∈ _; simp
      have hlt' : (k : Int) < (l.length : Int) := by omega
      clear hc
      by_cases he : x = l[k]
      · have HE := hid he
        clear he
        rw [← HE.out] at hck
        have HF : Hid (hasB l x = true) := by show _ = _; rw [hasB_iff, HE.out]; exact HG.out
        go_wp2_with fail
        go_ret
        exact ⟨by rw [HF.out]; rfl, rfl⟩
      · generalize l[k] = y at *
        have he' : (y == x) = false := by simp; omega
        go_wp2_with fail
        go_roundg (l.length - (k + 1))
        case measure => omega
        case rel => exact ⟨k + 1, by omega, Nat.le_refl _, by go_num, by show _ ∉ _; rw [HT.out]; simp; exact ⟨HM.out, he⟩, rfl⟩
    · have hlt' : ¬ (k : Int) < (l.length : Int) := by omega
      go_wp2_with fail
      go_ret
      have HN := HM.out
      rw [List.take_of_length_le (by omega)] at HN
      exact ⟨ret_bool (by rw [eq_comm, Bool.eq_false_iff]; intro e; exact HN (hasB_iff.1 e)), rfl⟩
set_option maxHeartbeats 3200000 in
theorem sameList_any {w : World} {v u : Value} {l m : List Int} (h : IL w v l) (hm : IL w u m) : Calls Tryz.prog 31 #[v, u] w fun e w' => e = .returned (.bool (decide (l = m))) ∧ Below w.heap.size w w' := by
  obtain ⟨⟨a, cap, rfl, hcap, hcm, hnn, hat⟩, hok, hfew⟩ := h
  obtain ⟨⟨ua, ucap, rfl, _, _, _, uat⟩, uok, ufew⟩ := hm
  have HA := hid hat
  have HU := hid uat
  have HOK := hid hok
  have HUK := hid uok
  clear hat uat hok uok hnn hcap hcm
  by_cases hl : l.length = m.length
  · have HL := hid hl
    have hmlen : ¬ ((l.length : Int) ≠ (m.length : Int)) := by omega
    rw [← hl]
    clear hl
    go_enter Tryz.func31, Tryz.ntmps31
    go_wp2_with fail
    go_loopg [5] l.length (fun kx s5 wr => ∃ k : Nat, k ≤ l.length ∧ l.length - k ≤ kx ∧ s5 = .int .i64 (k : Int) ∧ Hid (l.take k = m.take k ∧ Below w.heap.size w wr))
    case atStart => exact ⟨0, Nat.zero_le _, by omega, rfl, by simp, Below.refl _ _⟩
    case round =>
      obtain ⟨k, hk, hkx, rfl, HR⟩ := hrel
      by_cases hlt : k < l.length
      · have hltm : k < m.length := by have := HL.out; omega
        obtain ⟨b, off, rfl, hb, hc⟩ := HA.out (by intro e; rw [e] at hlt; simp at hlt)
        obtain ⟨b2, off2, rfl, hb2, hc2⟩ := HU.out (by intro e; rw [e] at hltm; simp at hltm)
        have hck := kept_cell HR.out.2 (hc k hlt)
        have hck2 := kept_cell HR.out.2 (hc2 k hltm)
        have hok := HOK.out l[k] (by simp)
        have huk := HUK.out m[k] (by simp)
        have HT := hid (take_eq_snoc HR.out.1 hlt hltm)
        have HE : Hid (l = m → l[k] = m[k]) := fun e => by subst e; rfl
        have hlt' : (k : Int) < (l.length : Int) := by omega
        have hk0 : (0 : Int) ≤ (k : Int) := by omega
        generalize l[k] = y at *
        generalize m[k] = z at *
        clear hc hc2
        by_cases he : y = z
        · have HTT := hid (HT.out he)
          subst he
          go_wp2_with fail
          go_quiet (fail)
          go_wp2_with fail
          go_roundg (l.length - (k + 1))
          case measure => omega
          case rel => exact ⟨k + 1, by omega, Nat.le_refl _, by go_num, HTT.out, by first | exact HR.out.2 | exact HR.out.2.drew | exact below_drewN HR.out.2 _⟩
        · have HF : Hid (decide (l = m) = false) := by show _ = _; simp; intro e; exact he (HE.out e)
          go_wp2_with fail
          go_quiet (fail)
          go_wp2_with fail
          go_ret
          exact ⟨by rw [HF.out]; rfl, by first | exact HR.out.2 | exact HR.out.2.drew | exact below_drewN HR.out.2 _⟩
      · have hlt' : ¬ (k : Int) < (l.length : Int) := by omega
        go_wp2_with fail
        go_ret
        have hr := HR.out
        rw [List.take_of_length_le (by omega), List.take_of_length_le (by have := HL.out; omega)] at hr
        exact ⟨by rw [hr.1]; simp, hr.2⟩
  · have HF : Hid (decide (l = m) = false) := by show _ = _; simp; intro e; exact hl (by rw [e])
    have hmlen : ((l.length : Int) ≠ (m.length : Int)) := by omega
    go_enter Tryz.func31, Tryz.ntmps31
    go_wp2_with fail
    go_ret
    exact ⟨by rw [HF.out]; rfl, Below.refl _ _⟩

def pickI (c n : Int) : Int := if c < 0 then (-(c + 1)) % n else c % n
theorem pickI_range (c n : Int) (hn : 1 ≤ n) : 0 ≤ pickI c n ∧ pickI c n < n := by
  unfold pickI
  split
  · exact ⟨Int.emod_nonneg _ (by omega), Int.emod_lt_of_pos _ (by omega)⟩
  · exact ⟨Int.emod_nonneg _ (by omega), Int.emod_lt_of_pos _ (by omega)⟩
theorem neg_tmod (c n : Int) : (-(c + 1)).tmod n = -((c + 1).tmod n) := by rw [Int.neg_tmod]
set_option maxHeartbeats 400000 in
theorem pick_any (c n : Int) (w : World) (hc : I64 c) (hn : 1 ≤ n) (hn2 : n ≤ 1000000) : Calls Tryz.prog 15 #[.int .i64 c, .int .i64 n] w fun e w' => e = .returned (.int .i64 (pickI c n)) ∧ w = w' := by
  unfold I64 at hc
  obtain ⟨hc1, hc2⟩ := hc
  by_cases h0 : c < 0
  · obtain ⟨d, hd⟩ : ∃ d, -(c + 1) = d := ⟨_, rfl⟩
    have HF : Hid (pickI c n = d % n) := by show _ = _; unfold pickI; rw [if_pos h0, hd]
    have hd0 : 0 ≤ d := by omega
    have hd1 : d ≤ 9223372036854775807 := by omega
    have hnz : n ≠ 0 := by omega
    go_enter Tryz.func15, Tryz.ntmps15
    go_wp2
    go_ret
    refine ⟨?_, rfl⟩
    rw [HF.out]
    refine ret_int ?_
    first | rfl | (rw [← neg_tmod, Int.tmod_eq_emod_of_nonneg (by omega)]) | (rw [Int.tmod_eq_emod_of_nonneg (by omega)])
  · have HF : Hid (pickI c n = c % n) := by show _ = _; unfold pickI; rw [if_neg h0]
    have hnz : n ≠ 0 := by omega
    have h0' : 0 ≤ c := by omega
    go_enter Tryz.func15, Tryz.ntmps15
    go_wp2
    go_ret
    refine ⟨?_, rfl⟩
    rw [HF.out]
    refine ret_int ?_
    first | rfl | (rw [Int.tmod_eq_emod_of_nonneg (by omega)])

/-- A list that was just written out. -/
theorem il_lit {W : World} {g : Nat} (l : List Int) (hg : W.heap[g]? = some (.cells (vals l).toArray 3)) (hok : ∀ x ∈ l, I64 x) (hf : l.length ≤ 1000) : IL W (.slice (some ⟨g, 0, none⟩) l.length l.length) l := by
  refine ⟨⟨some ⟨g, 0, none⟩, l.length, rfl, Nat.le_refl _, by unfold maxLen; omega, (fun h => by cases h), fun _ => ⟨g, 0, rfl, ?_, fun i hi => ?_⟩⟩, hok, by omega⟩
  · rcases Nat.lt_or_ge g W.heap.size with h1 | h1
    · exact h1
    · rw [Array.getElem?_eq_none h1] at hg; cases hg
  · exact cell_blk hg _ _ (by simp [vals, hi])

def knP : Pt := ⟨1, 1, 3, 5, [1, 2], [1, 2, 3], [], [], 2⟩
theorem sm64 (x : Int) (h : 0 ≤ x ∧ x ≤ 1000) : I64 x := by unfold I64; omega
theorem lit64 (l : List Int) (h : (l.all fun x => decide (0 ≤ x ∧ x ≤ 1000)) = true) : ∀ x ∈ l, I64 x := fun x hx => sm64 x (of_decide_eq_true (List.all_eq_true.1 h x hx))
end Go.Proofs.YtcffomhcmilcpaaGreat

/- The chapter's examples. -/
namespace Go.Proofs.YtcffomhcmilcpaaGreat
open Go.RowKit Go.Maps
set_option maxRecDepth 100000
set_option linter.unusedSimpArgs false
set_option linter.unusedVariables false

theorem noX : ∀ (W : World) (k : Nat), (fun _ : Nat => False) k → k < W.heap.size := fun _ _ h => h.elim
theorem small (n : Int) (h : -1000 ≤ n ∧ n ≤ 1000) : I64 n := by unfold I64; omega
theorem app_sh (k : Nat) (h : k < 4) : (shI k).applied < 1000000000000 := by
  have : k = 0 ∨ k = 1 ∨ k = 2 ∨ k = 3 := by omega
  rcases this with rfl | rfl | rfl | rfl
  · exact (by decide : (0 : Int) < 1000000000000)
  · exact (by decide : (2 : Int) < 1000000000000)
  · exact (by decide : (4 : Int) < 1000000000000)
  · exact (by decide : (6 : Int) < 1000000000000)
theorem app_reg (k : Nat) (h : k < 3) : (applyI (shI k) (rcR 1 ((k : Int) + 1) 1 0)).1.applied < 1000000000000 := by
  have : k = 0 ∨ k = 1 ∨ k = 2 := by omega
  rcases this with rfl | rfl | rfl
  · exact (by decide : (1 : Int) < 1000000000000)
  · exact (by decide : (3 : Int) < 1000000000000)
  · exact (by decide : (5 : Int) < 1000000000000)
theorem res_4 : applyI (shI 3) (rcR 4 2 2 1) = (sh4.1, 1, 0) := by show sh4 = _; rw [← sh4_two]
theorem app_4 : (shI 3).applied < 1000000000000 := app_sh 3 (by omega)
theorem res_5 : applyI sh4.1 (rcR 2 1 1 0) = (sh5.1, 1, 0) := by show sh5 = _; rw [← sh5_two]
theorem app_5 : sh4.1.applied < 1000000000000 := (by decide : (7 : Int) < 1000000000000)
theorem res_6 : applyI sh5.1 (rcR 1 1 1 0) = (sh6.1, 0, 13) := by show sh6 = _; rw [← sh6_two]
theorem app_6 : sh5.1.applied < 1000000000000 := (by decide : (8 : Int) < 1000000000000)
theorem res_7 : applyI sh6.1 (rcR 4 1 1 1) = (sh7.1, 0, 9) := by show sh7 = _; rw [← sh7_two]
theorem app_7 : sh6.1.applied < 1000000000000 := by rw [sh6_app]; decide
theorem res_8 : applyI sh7.1 (rcR 8 0 0 0) = (sh8.1, 1, 0) := by show sh8 = _; rw [← sh8_two]
theorem app_8 : sh7.1.applied < 1000000000000 := by rw [sh7_app]; decide
theorem res_9 : applyI sh8.1 (rcR 8 1 0 0) = (sh9.1, 1, 0) := by show sh9 = _; rw [← sh9_two]
theorem app_9 : sh8.1.applied < 1000000000000 := by rw [sh8_app]; decide
set_option maxHeartbeats 20000000 in
theorem shown_any (w : World) : Calls Tryz.prog 9 #[] w fun e w' => e = .returned (.bool true) ∧ Below w.heap.size w w' := by
  have HNEW := hid (new_any w)
  go_enter Tryz.func9, Tryz.ntmps9
  go_wp2_with fail
  refine HNEW.out.mono ?_
  rintro e W0 ⟨rfl, hi0, hb0⟩
  have HS0 := hid (IS.new w (X := fun _ => False) (Below.refl _ _) (noX w) hi0 hb0)
  clear hi0 hb0 HNEW
  generalize w.heap.size + 1 = q at *
  go_wp2_with fail
  go_loopg [2] 3 (fun kx s2 wr => ∃ k : Nat, k ≤ 3 ∧ 3 - k ≤ kx ∧ s2 = .int .i64 ((k : Int) + 1) ∧ Hid (IS w wr q (shI k) (fun _ => False)))
  case atStart => exact ⟨0, Nat.zero_le _, by omega, rfl, HS0.out⟩
  case round =>
    obtain ⟨k, hk, hkx, rfl, HS⟩ := hrel
    clear HS0
    by_cases hlt : k < 3
    · have H1 := hid (sh_reg k hlt)
      have H2 := hid (sh_unf k hlt)
      have HA1 := hid (app_sh k (by omega))
      have HA2 := hid (app_reg k hlt)
      obtain ⟨z, hz⟩ : ∃ z : Int, z = (k : Int) + 1 := ⟨_, rfl⟩
      have HSK : Hid (shI (k + 1) = (applyI (applyI (shI k) (rcR 1 z 1 0)).1 (rcR 3 z 1 0)).1) := by show _ = _; rw [hz]; rfl
      have hz1 : 1 ≤ z ∧ z ≤ 3 := by omega
      obtain ⟨hza, hzb⟩ := hz1
      have HZ := hid hz
      rw [← hz] at H1 H2 HA2 ⊢
      clear hz
      obtain ⟨J1, hJ1⟩ : ∃ J, J = applyI (shI k) (rcR 1 z 1 0) := ⟨_, rfl⟩
      rw [← hJ1] at H1 H2 HSK HA2
      obtain ⟨J2, hJ2⟩ : ∃ J, J = applyI J1.1 (rcR 3 z 1 0) := ⟨_, rfl⟩
      rw [← hJ2] at H2 HSK
      have HR1 : Hid (applyI (shI k) (rcR 1 z 1 0) = (J1.1, z, 0)) := by show _ = _; rw [← hJ1, ← H1.out]
      have HR2 : Hid (applyI J1.1 (rcR 3 z 1 0) = (J2.1, z, 0)) := by show _ = _; rw [← hJ2, ← H2.out]
      have HC1 : Hid (∀ W, IS w W q (shI k) (fun _ => False) → Calls Tryz.prog 12 #[.pointer (some ⟨q, 0, none⟩), recV 1 z 1 0] W fun e w' => e = .returned (.tuple #[.int .i64 z, .int .i64 0]) ∧ ISOut w W w' q J1.1 (fun _ => False)) := fun W h => h.rec (noX W) HA1.out 1 z 1 0 (by omega) (small _ (by omega)) (small _ (by omega)) (small _ (by omega)) (small _ (by omega)) HR1.out
      have HC2 : Hid (∀ W, IS w W q J1.1 (fun _ => False) → Calls Tryz.prog 12 #[.pointer (some ⟨q, 0, none⟩), recV 3 z 1 0] W fun e w' => e = .returned (.tuple #[.int .i64 z, .int .i64 0]) ∧ ISOut w W w' q J2.1 (fun _ => False)) := fun W h => h.rec (noX W) HA2.out 3 z 1 0 (by omega) (small _ (by omega)) (small _ (by omega)) (small _ (by omega)) (small _ (by omega)) HR2.out
      clear hJ1 hJ2 HR1 HR2 H1 H2 HA1 HA2
      have hz3 : z ≤ 3 := hzb
      go_wp2_with fail
      refine (rec_any 1 z 1 0 _).mono ?_
      rintro e w1 ⟨rfl, hb1⟩
      have HD1 := hid (HC1.out w1 (HS.out.under hb1))
      clear hb1 HC1 HS
      go_wp2_with fail
      refine HD1.out.mono ?_
      rintro e w2 ⟨rfl, ho2⟩
      have HS2 := hid ho2.1
      clear ho2 HD1
      go_wp2_with fail
      refine (rec_any 3 z 1 0 _).mono ?_
      rintro e w3 ⟨rfl, hb3⟩
      have HD2 := hid (HC2.out w3 (HS2.out.under hb3))
      clear hb3 HC2 HS2
      go_wp2_with fail
      refine HD2.out.mono ?_
      rintro e w4 ⟨rfl, ho4⟩
      have HS4 : Hid (IS w w4 q (shI (k + 1)) (fun _ => False)) := by show IS _ _ _ _ _; rw [HSK.out]; exact ho4.1
      clear ho4 HD2 HSK
      have hwz : IntKind.i64.wrap (z + 1) = z + 1 := IntWalk.i64_in _ ⟨by omega, by omega⟩
      go_wp2_with fail
      go_roundg (3 - (k + 1))
      case measure => omega
      case rel => exact ⟨k + 1, by omega, Nat.le_refl _, by rw [HZ.out]; push_cast; rfl, HS4.out⟩
    · have hk3 : k = 3 := by omega
      subst hk3
      clear hlt hk hkx
      have HC4 : Hid (∀ W, IS w W q (shI 3) (fun _ => False) → (∀ k, (fun _ => False) k → k < W.heap.size) → Calls Tryz.prog 12 #[.pointer (some ⟨q, 0, none⟩), recV 4 2 2 1] W fun e w' => e = .returned (.tuple #[.int .i64 1, .int .i64 0]) ∧ ISOut w W w' q sh4.1 (fun _ => False)) := fun W h hX => h.rec hX (app_4) 4 2 2 1 (by omega) (small _ (by omega)) (small _ (by omega)) (small _ (by omega)) (small _ (by omega)) res_4
      go_wp2_with fail
      refine (rec_any 4 2 2 1 _).mono ?_
      rintro e v4 ⟨rfl, hb⟩
      have HD := hid (HC4.out v4 (HS.out.under hb) (noX _))
      have HBK := hid hb
      clear hb HS
      go_wp2_with fail
      refine HD.out.mono ?_
      rintro e u4 ⟨rfl, ho⟩
      have HS4 := hid ho.1
      clear ho HD HBK
      have HP2 := hid (HS4.out.part 1 (newP 2 [2, 3] 1) (by rw [sh4_part]; rfl) 2 rfl)
      go_wp2_with fail
      refine HP2.out.mono ?_
      rintro e w5 ⟨pv, rfl, hp1, hp2, hb5⟩
      have HPM := hid hp1
      obtain ⟨x1, y1, x2, y2, x3, y3, x4, y4, rfl, _⟩ := hp1.open
      have HS5 := hid (HS4.out.under hb5)
      clear hp1 hp2 hb5 HS4 HP2
      simp only [newP, headL, List.headD_cons, List.length_cons, List.length_nil, Nat.zero_add, Nat.reduceAdd]
      go_upto_region 13 with fail
      have HBX := hid (heap_alloc_new w5 (.cells #[.int .i64 2, .int .i64 2, .int .i64 1, .int .i64 1, .slice x1 2 y1, .slice x2 2 y2, .slice x3 0 y3, .slice x4 0 y4, .int .i64 1] 54))
      have HS6 : Hid (IS w (w5.alloc (.cells #[.int .i64 2, .int .i64 2, .int .i64 1, .int .i64 1, .slice x1 2 y1, .slice x2 2 y2, .slice x3 0 y3, .slice x4 0 y4, .int .i64 1] 54)) q sh4.1 (fun k => k = w5.heap.size)) := (HS5.out.more (fun k hk => .inr (by omega))).under ((Below.refl _ _).alloc (Nat.le_refl _) _)
      have HR6 : Hid (IL (w5.alloc (.cells #[.int .i64 2, .int .i64 2, .int .i64 1, .int .i64 1, .slice x1 2 y1, .slice x2 2 y2, .slice x3 0 y3, .slice x4 0 y4, .int .i64 1] 54)) (.slice x2 2 y2) [2, 3]) := by
        obtain ⟨a, b, c, d, e, _, j2, _⟩ := HPM.out.under ((Below.refl _ w5).alloc (Nat.le_refl _) (.cells #[.int .i64 2, .int .i64 2, .int .i64 1, .int .i64 1, .slice x1 2 y1, .slice x2 2 y2, .slice x3 0 y3, .slice x4 0 y4, .int .i64 1] 54))
        simp only [Value.agg.injEq] at e
        have e5 := congrArg (fun z => z[5]?) e
        simp at e5
        rw [← e5] at j2
        exact j2
      generalize w5.alloc (.cells #[.int .i64 2, .int .i64 2, .int .i64 1, .int .i64 1, .slice x1 2 y1, .slice x2 2 y2, .slice x3 0 y3, .slice x4 0 y4, .int .i64 1] 54) = W6 at *
      obtain ⟨y, hy⟩ : ∃ y, y = w5.heap.size := ⟨_, rfl⟩
      rw [← hy] at HBX HS6 ⊢
      have hyw : w.heap.size ≤ y := by rw [hy]; exact HS5.out.below.size
      clear hy HS5 HPM
      have g5 := cell_blk HBX.out 5 _ rfl
      have hyl := (Array.getElem?_eq_some_iff.1 HBX.out).1
      have hyn : ¬ y = W6.heap.size := by omega
      have HB6 : Hid (Below W6.heap.size W6 (W6.alloc (.cells #[.int .i64 2, .int .i64 3] 3))) := (Below.refl _ _).alloc (Nat.le_refl _) _
      have HSL := hid (sameList_any (HR6.out.under HB6.out) (il_lit [2, 3] (heap_alloc_new W6 (.cells #[.int .i64 2, .int .i64 3] 3)) (fun x hx => small _ (by simp at hx; omega)) (by simp)))
      have HT : Hid (decide (([2, 3] : List Int) = [2, 3]) = true) := by show _ = _; decide
      rw [HT.out] at HSL
      go_wp2_with fail
      refine HSL.out.mono ?_
      rintro e w7 ⟨rfl, hb7⟩
      have HS7 := hid (HS6.out.under (HB6.out.trans (hb7.mono HB6.out.size)))
      have HBX7 := hid (((HB6.out.trans (hb7.mono HB6.out.size)).block y hyl).trans HBX.out)
      have c1 := cell_blk HBX7.out 1 _ rfl
      clear hb7 HSL HB6 HR6 HS6 HBX g5 hyl hyn
      have HC5 : Hid (∀ W, IS w W q sh4.1 (fun k => k = y) → (∀ k, (fun k => k = y) k → k < W.heap.size) → Calls Tryz.prog 12 #[.pointer (some ⟨q, 0, none⟩), recV 2 1 1 0] W fun e w' => e = .returned (.tuple #[.int .i64 1, .int .i64 0]) ∧ ISOut w W w' q sh5.1 (fun k => k = y)) := fun W h hX => h.rec hX app_5 2 1 1 0 (by omega) (small _ (by omega)) (small _ (by omega)) (small _ (by omega)) (small _ (by omega)) res_5
      go_wp2_with fail
      refine (rec_any 2 1 1 0 _).mono ?_
      rintro e v5 ⟨rfl, hb⟩
      have HBV := hid ((hb.block y (Array.getElem?_eq_some_iff.1 HBX7.out).1).trans HBX7.out)
      have HD := hid (HC5.out v5 (HS7.out.under hb) (fun k hk => by cases hk; exact (Array.getElem?_eq_some_iff.1 HBV.out).1))
      clear hb HS7 HC5 HBX7
      go_wp2_with fail
      refine HD.out.mono ?_
      rintro e u5 ⟨rfl, ho⟩
      have HS8 := hid ho.1
      have HBX8 := hid ((ho.2.1 y rfl).trans HBV.out)
      clear ho HD HBV
      clear c1
      have HP1 := hid (HS8.out.part 0 ⟨1, 2, 2, 2, [2], [1, 2], [], [], 1⟩ (by rw [sh5_part]; rfl) 1 rfl)
      go_wp2_with fail
      refine HP1.out.mono ?_
      rintro e w9 ⟨pv, rfl, hp1, hp2, hb9⟩
      have HPM := hid hp1
      have HPN := hid hp2
      obtain ⟨z1, t1, z2, t2, z3, t3, z4, t4, rfl, _⟩ := hp1.open
      have HS9 := hid (HS8.out.under hb9)
      have HBX9 := hid ((hb9.block y (Array.getElem?_eq_some_iff.1 HBX8.out).1).trans HBX8.out)
      have hyu := (Array.getElem?_eq_some_iff.1 HBX8.out).1
      simp only [List.length_cons, List.length_nil, Nat.zero_add, Nat.reduceAdd]
      have k0 := cell_blk HBX9.out 0 _ rfl
      have k1 := cell_blk HBX9.out 1 _ rfl
      have k2 := cell_blk HBX9.out 2 _ rfl
      have k3 := cell_blk HBX9.out 3 _ rfl
      have k4 := cell_blk HBX9.out 4 _ rfl
      have k5 := cell_blk HBX9.out 5 _ rfl
      have k6 := cell_blk HBX9.out 6 _ rfl
      have k7 := cell_blk HBX9.out 7 _ rfl
      have k8 := cell_blk HBX9.out 8 _ rfl
      have fz := frz_blk HBX9.out
      obtain ⟨N, hN⟩ : ∃ N, N = puts w9 y 0 [.int .i64 1, .int .i64 2, .int .i64 2, .int .i64 2, .slice z1 1 t1, .slice z2 2 t2, .slice z3 0 t3, .slice z4 0 t4, .int .i64 1] := ⟨_, rfl⟩
      have HPU : Hid (PutsR w9 N y 0 [.int .i64 1, .int .i64 2, .int .i64 2, .int .i64 2, .slice z1 1 t1, .slice z2 2 t2, .slice z3 0 t3, .slice z4 0 t4, .int .i64 1]) := by rw [hN]; exact puts_all _ _ _ _
      have HN := hid hN
      have HBN := hid (HPU.out.box9 HBX9.out rfl)
      have HSN : Hid (IS w N q sh5.1 (fun k => k = y)) := HS9.out.beside (HPU.out.keeps (S := fun k => k = y) rfl) (HPU.out.below HS9.out.below hyw)
      have HRN : Hid (IL N (.slice z1 1 t1) [2]) := by
        obtain ⟨a, b, c, d, e, j1, _⟩ := HPM.out.kept HPN.out (w' := N) (fun k hk => HPU.out.other k (by omega)) (by rw [HPU.out.size]; exact Nat.le_refl _)
        simp only [Value.agg.injEq] at e
        have e5 := congrArg (fun z => z[4]?) e
        simp at e5
        rw [← e5] at j1
        exact j1
      go_upto_region 18 with fail
      show Code.wp Tryz.prog _ _ _ (puts w9 y 0 [.int .i64 1, .int .i64 2, .int .i64 2, .int .i64 2, .slice z1 1 t1, .slice z2 2 t2, .slice z3 0 t3, .slice z4 0 t4, .int .i64 1])
      rw [← HN.out]
      clear HN hN HPU HPM HPN HS9 HBX9 HS8 HBX8 HP1 hp1 hp2 hb9 k0 k1 k2 k3 k4 k5 k6 k7 k8 fz hyu
      have g4 := cell_blk HBN.out 4 _ rfl
      have hyl := (Array.getElem?_eq_some_iff.1 HBN.out).1
      have hyn : ¬ y = N.heap.size := by omega
      have HB6 : Hid (Below N.heap.size N (N.alloc (.cells #[.int .i64 2] 3))) := (Below.refl _ _).alloc (Nat.le_refl _) _
      have HSL := hid (sameList_any (HRN.out.under HB6.out) (il_lit [2] (heap_alloc_new N (.cells #[.int .i64 2] 3)) (fun x hx => small _ (by simp at hx; omega)) (by simp)))
      have HT2 : Hid (decide (([2] : List Int) = [2]) = true) := by show _ = _; decide
      rw [HT2.out] at HSL
      go_wp2_with fail
      refine HSL.out.mono ?_
      rintro e w10 ⟨rfl, hb10⟩
      have HSA := hid (HSN.out.under (HB6.out.trans (hb10.mono HB6.out.size)))
      have HBA := hid (((HB6.out.trans (hb10.mono HB6.out.size)).block y hyl).trans HBN.out)
      clear hb10 HSL HB6 HRN HSN HBN g4 hyl hyn
      have HC6 : Hid (∀ W, IS w W q sh5.1 (fun k => k = y) → (∀ k, (fun k => k = y) k → k < W.heap.size) → Calls Tryz.prog 12 #[.pointer (some ⟨q, 0, none⟩), recV 1 1 1 0] W fun e w' => e = .returned (.tuple #[.int .i64 0, .int .i64 13]) ∧ ISOut w W w' q sh6.1 (fun k => k = y)) := fun W h hX => h.rec hX app_6 1 1 1 0 (by omega) (small _ (by omega)) (small _ (by omega)) (small _ (by omega)) (small _ (by omega)) res_6
      go_wp2_with fail
      refine (rec_any 1 1 1 0 _).mono ?_
      rintro e v6 ⟨rfl, hb⟩
      have HBV := hid ((hb.block y (Array.getElem?_eq_some_iff.1 HBA.out).1).trans HBA.out)
      have HD := hid (HC6.out v6 (HSA.out.under hb) (fun k hk => by cases hk; exact (Array.getElem?_eq_some_iff.1 HBV.out).1))
      clear hb HSA HC6 HBA
      go_wp2_with fail
      refine HD.out.mono ?_
      rintro e u6 ⟨rfl, ho⟩
      have HSB := hid ho.1
      have HBB := hid ((ho.2.1 y rfl).trans HBV.out)
      clear ho HD HBV
      have HC7 : Hid (∀ W, IS w W q sh6.1 (fun k => k = y) → (∀ k, (fun k => k = y) k → k < W.heap.size) → Calls Tryz.prog 12 #[.pointer (some ⟨q, 0, none⟩), recV 4 1 1 1] W fun e w' => e = .returned (.tuple #[.int .i64 0, .int .i64 9]) ∧ ISOut w W w' q sh7.1 (fun k => k = y)) := fun W h hX => h.rec hX app_7 4 1 1 1 (by omega) (small _ (by omega)) (small _ (by omega)) (small _ (by omega)) (small _ (by omega)) res_7
      go_wp2_with fail
      refine (rec_any 4 1 1 1 _).mono ?_
      rintro e v7 ⟨rfl, hb⟩
      have HBV := hid ((hb.block y (Array.getElem?_eq_some_iff.1 HBB.out).1).trans HBB.out)
      have HD := hid (HC7.out v7 (HSB.out.under hb) (fun k hk => by cases hk; exact (Array.getElem?_eq_some_iff.1 HBV.out).1))
      clear hb HSB HC7 HBB
      go_wp2_with fail
      refine HD.out.mono ?_
      rintro e u7 ⟨rfl, ho⟩
      have HSC := hid ho.1
      have HBC := hid ((ho.2.1 y rfl).trans HBV.out)
      clear ho HD HBV
      have HC8 : Hid (∀ W, IS w W q sh7.1 (fun k => k = y) → (∀ k, (fun k => k = y) k → k < W.heap.size) → Calls Tryz.prog 12 #[.pointer (some ⟨q, 0, none⟩), recV 8 0 0 0] W fun e w' => e = .returned (.tuple #[.int .i64 1, .int .i64 0]) ∧ ISOut w W w' q sh8.1 (fun k => k = y)) := fun W h hX => h.rec hX app_8 8 0 0 0 (by omega) (small _ (by omega)) (small _ (by omega)) (small _ (by omega)) (small _ (by omega)) res_8
      go_wp2_with fail
      refine (rec_any 8 0 0 0 _).mono ?_
      rintro e v8 ⟨rfl, hb⟩
      have HBV := hid ((hb.block y (Array.getElem?_eq_some_iff.1 HBC.out).1).trans HBC.out)
      have HD := hid (HC8.out v8 (HSC.out.under hb) (fun k hk => by cases hk; exact (Array.getElem?_eq_some_iff.1 HBV.out).1))
      clear hb HSC HC8 HBC
      go_wp2_with fail
      refine HD.out.mono ?_
      rintro e u8 ⟨rfl, ho⟩
      have HSD := hid ho.1
      have HBD := hid ((ho.2.1 y rfl).trans HBV.out)
      clear ho HD HBV
      have HC9 : Hid (∀ W, IS w W q sh8.1 (fun k => k = y) → (∀ k, (fun k => k = y) k → k < W.heap.size) → Calls Tryz.prog 12 #[.pointer (some ⟨q, 0, none⟩), recV 8 1 0 0] W fun e w' => e = .returned (.tuple #[.int .i64 1, .int .i64 0]) ∧ ISOut w W w' q sh9.1 (fun k => k = y)) := fun W h hX => h.rec hX app_9 8 1 0 0 (by omega) (small _ (by omega)) (small _ (by omega)) (small _ (by omega)) (small _ (by omega)) res_9
      go_wp2_with fail
      refine (rec_any 8 1 0 0 _).mono ?_
      rintro e v9 ⟨rfl, hb⟩
      have HBV := hid ((hb.block y (Array.getElem?_eq_some_iff.1 HBD.out).1).trans HBD.out)
      have HD := hid (HC9.out v9 (HSD.out.under hb) (fun k hk => by cases hk; exact (Array.getElem?_eq_some_iff.1 HBV.out).1))
      clear hb HSD HC9 HBD
      go_wp2_with fail
      refine HD.out.mono ?_
      rintro e u9 ⟨rfl, ho⟩
      have HSE := hid ho.1
      have HBE := hid ((ho.2.1 y rfl).trans HBV.out)
      clear ho HD HBV
      have HAP := hid HSE.out.applied
      rw [sh9_app] at HAP
      have m1 := cell_blk HBE.out 1 _ rfl
      have m2 := cell_blk HBE.out 2 _ rfl
      have m3 := cell_blk HBE.out 3 _ rfl
      go_wp2_with fail
      refine HAP.out.mono ?_
      rintro e w11 ⟨rfl, rfl⟩
      go_wp2_with fail
      go_ret
      exact ⟨rfl, HSE.out.below⟩
end Go.Proofs.YtcffomhcmilcpaaGreat

/- A row of partitions is made. -/
namespace Go.Proofs.YtcffomhcmilcpaaGreat
open Go.RowKit Go.Maps
set_option maxRecDepth 100000
set_option linter.unusedSimpArgs false
set_option linter.unusedVariables false

/-- The partition that is nothing yet. -/
def zX : Value × Pt := (.agg #[.int .i64 0, .int .i64 0, .int .i64 0, .int .i64 0, .slice none 0 0, .slice none 0 0, .slice none 0 0, .slice none 0 0, .int .i64 0], Pt.zero)
theorem zX9 : (pc zX.1).length = 9 := rfl
theorem info54z : ∃ i, Tryz.prog.info? 54 = some i ∧ i.zero = some zX.1 ∧ i.size = 9 ∧ i.bytes = 136 := ⟨_, rfl, rfl, rfl, rfl⟩
def zA (n : Nat) : Array Value := (flatP (List.replicate n zX)).toArray
theorem zA_get (n i : Nat) (h : i < n * 9) : (zA n)[i]? = (pc zX.1)[i % 9]? := by
  have e : i = i / 9 * 9 + i % 9 := by omega
  have := flatP_get (List.replicate n zX) (i / 9) (i % 9) (fun x hx => by rw [List.eq_of_mem_replicate hx]; rfl) (by omega)
  rw [← e] at this
  unfold zA
  rw [List.getElem?_toArray, this, List.getElem?_replicate, if_pos (by omega)]
  rfl
theorem zA_size (n : Nat) : (zA n).size = n * 9 := by
  unfold zA
  rw [List.size_toArray, flatP_length _ (fun x hx => by rw [List.eq_of_mem_replicate hx]; rfl), List.length_replicate]
theorem make30 (w : World) (n : Nat) (hn : n ≤ 1000) : (Instr.makeSlice 30 (.int .i64 (n : Int)) (.int .i64 (n : Int))).run Tryz.prog w = .ok (.slice (some ⟨w.heap.size, 0, none⟩) n n) (w.alloc (.cells (zA n) 54)) := by
  obtain ⟨i, h1, h2, h3, h4⟩ := info54z
  have := run_makeSlice (P := Tryz.prog) w 30 54 i _ Tryz.underlying30 h1 h2 .i64 .i64 (n : Int) (n : Int) (by omega) (Int.le_refl _) (by rw [h3]; simp; omega) (by rw [h4]; omega) (by omega)
  rw [this, h3]
  have hcz : zX.1.cells = (pc zX.1).toArray := by kernel_rfl
  have e : madeCells zX.1.cells (n * 9) = zA n := by
    apply Array.ext_getElem?
    intro i
    by_cases h : i < n * 9
    · rw [zA_get n i h]
      have hm : i % 9 < 9 := by omega
      rw [hcz]
      simp only [madeCells, List.size_toArray, zX9]
      simp [h]
      rw [List.getElem?_eq_getElem (by rw [zX9]; exact hm)]
      simp [zX9, hm]
    · have h1 : (zA n)[i]? = none := Array.getElem?_eq_none (by rw [zA_size]; omega)
      have h2 : (madeCells zX.1.cells (n * 9))[i]? = none := Array.getElem?_eq_none (by simp [madeCells]; omega)
      rw [h1, h2]
  simp only [Int.toNat_natCast]
  rw [e]
theorem row_zero {w : World} {g n : Nat} (h : w.heap[g]? = some (.cells (zA n) 54)) (hn : n ≤ 1000) : w.ownsRow 0 54 9 (.slice (some ⟨g, 0, none⟩) n n) (List.replicate n zX).length (flatP (List.replicate n zX)) := by
  have hl := flatP_length (List.replicate n zX) (fun x hx => by rw [List.eq_of_mem_replicate hx]; rfl)
  refine ⟨hl, .inr ⟨g, n, zA n, by rw [List.length_replicate], Nat.zero_le _, h, by rw [List.length_replicate]; exact Nat.le_refl _, by unfold maxLen; omega, zA_size n, ?_⟩⟩
  unfold zA
  rw [List.take_of_length_le (by simpa using Nat.le_of_eq hl)]
end Go.Proofs.YtcffomhcmilcpaaGreat

/- The partitions of an image: what the loop keeps to. -/
namespace Go.Proofs.YtcffomhcmilcpaaGreat
open Go.RowKit Go.Maps
set_option maxRecDepth 100000
set_option linter.unusedSimpArgs false
set_option linter.unusedVariables false
/-- The first k partitions are copied into the new row. -/
def PInv (w wr : World) (P : List Pt) (k : Nat) : Prop := ∃ ds : List (Value × Pt), ds.length = k ∧ ds.map (·.2) = P.take k ∧ wr.ownsRow 0 54 9 (.slice (some ⟨w.heap.size, 0, none⟩) P.length P.length) (ds ++ List.replicate (P.length - k) zX).length (flatP (ds ++ List.replicate (P.length - k) zX)) ∧ (∀ x ∈ ds, PartM wr x.1 x.2 ∧ InP (fun b => w.heap.size + 1 ≤ b) x.1 x.2) ∧ Below w.heap.size w wr
theorem PInv.start (w : World) (P : List Pt) (hn : P.length ≤ 1000) : PInv w (w.alloc (.cells (zA P.length) 54)) P 0 :=
  ⟨[], rfl, by simp, by simpa using row_zero (heap_alloc_new w (.cells (zA P.length) 54)) hn, fun x hx => by simp at hx, (Below.refl _ _).alloc (Nat.le_refl _) _⟩
theorem PInv.lt {w wr : World} {P : List Pt} {k : Nat} (h : PInv w wr P k) : ∃ cur, wr.heap[w.heap.size]? = some (.cells cur 54 (0, 0)) ∧ cur.size = P.length * 9 := by
  obtain ⟨ds, h1, h2, ⟨_, ⟨e, _⟩ | ⟨g, cap, cur, e, hB, hg, hn, hc, hs, ht⟩⟩, h4, h5⟩ := h
  · cases e
  · injection e with e1 e2 e3
    cases e1
    subst e3
    exact ⟨cur, hg, hs⟩
theorem PInv.next {w wr W N : World} {P : List Pt} {k : Nat} (h : PInv w wr P k) (hk : k < P.length) (hb : Below wr.heap.size wr W) {v : Value} (hv : PartM W v P[k]) (hX : InP (fun b => wr.heap.size ≤ b) v P[k]) (hN : PutsR W N w.heap.size (k * 9) (pc v)) : PInv w N P (k + 1) := by
  obtain ⟨cur, hcur, _⟩ := h.lt
  have hlt : w.heap.size < wr.heap.size := (Array.getElem?_eq_some_iff.1 hcur).1
  obtain ⟨ds, h1, h2, h3, h4, h5⟩ := h
  have hX' : InP (fun b => w.heap.size + 1 ≤ b) v P[k] := hX.mono (fun j hj => by omega)
  have h9 : ∀ x ∈ ds ++ List.replicate (P.length - k) zX, (pc x.1).length = 9 := fun x hx => by
    rcases List.mem_append.1 hx with e | e
    · exact pc_part (h4 x e).1
    · rw [List.eq_of_mem_replicate e]; rfl
  have hW := row_kept (w1 := W) h3 (fun j hj => by cases hj; exact hb.block _ hlt)
  have hS := row_set hW h9 k (by simp; omega) (x := (v, P[k])) (pc_part hv) hN
  have e : (ds ++ List.replicate (P.length - k) zX).set k (v, P[k]) = (ds ++ [(v, P[k])]) ++ List.replicate (P.length - (k + 1)) zX := by
    obtain ⟨m, hm⟩ : ∃ m, P.length - k = m + 1 := ⟨P.length - k - 1, by omega⟩
    rw [hm, show P.length - (k + 1) = m by omega, List.replicate_succ, List.set_append_right _ _ (by omega), h1, Nat.sub_self]
    simp
  rw [e] at hS
  refine ⟨ds ++ [(v, P[k])], by simp [h1], ?_, hS, fun x hx => ?_, ?_⟩
  · rw [List.map_append, h2, List.take_succ_eq_append_getElem hk]
    rfl
  · rcases List.mem_append.1 hx with e | e
    · exact ⟨((h4 x e).1.under hb).kept (h4 x e).2 (fun j hj => hN.other j (by omega)) (by rw [hN.size]; exact Nat.le_refl _), (h4 x e).2⟩
    · obtain rfl := List.mem_singleton.1 e
      exact ⟨hv.kept hX' (fun j hj => hN.other j (by omega)) (by rw [hN.size]; exact Nat.le_refl _), hX'⟩
  · exact hN.below (h5.trans (hb.mono h5.size)) (Nat.le_refl _)
/-- A row of partitions of the call's own. -/
def PartsAt (B : Nat) (w : World) (v : Value) (P : List Pt) : Prop := ∃ ds : List (Value × Pt), ds.map (·.2) = P ∧ w.ownsRow 0 54 9 v P.length (flatP ds) ∧ (∀ x ∈ ds, PartM w x.1 x.2 ∧ InP (fun b => B + 1 ≤ b) x.1 x.2) ∧ v.ownBlock = some B
theorem PInv.done {w wr : World} {P : List Pt} {k : Nat} (h : PInv w wr P k) (hk : k = P.length) : PartsAt w.heap.size wr (.slice (some ⟨w.heap.size, 0, none⟩) P.length P.length) P ∧ Below w.heap.size w wr := by
  obtain ⟨ds, h1, h2, h3, h4, h5⟩ := h
  subst hk
  rw [Nat.sub_self, List.replicate_zero, List.append_nil, h1] at h3
  rw [List.take_length] at h2
  exact ⟨⟨ds, h2, h3, h4, rfl⟩, h5⟩
end Go.Proofs.YtcffomhcmilcpaaGreat

/- The partitions of an image. -/
namespace Go.Proofs.YtcffomhcmilcpaaGreat
open Go.RowKit Go.Maps
set_option maxRecDepth 100000
set_option linter.unusedSimpArgs false
set_option linter.unusedVariables false
set_option maxHeartbeats 3200000 in
theorem parts_any {w : World} {Z : Nat → Prop} {q : Nat} {I : Im} (hi : Img w Z q I) : Calls Tryz.prog 23 #[.pointer (some ⟨q, 0, none⟩)] w fun e w' => ∃ v, e = .returned v ∧ PartsAt w.heap.size w' v I.parts ∧ Below w.heap.size w w' := by
  obtain ⟨L, b, vt, vp, ve, ps, h, hz1, hz2, hz3⟩ := hi
  have HPL := hid h.plen
  have hf := h.ok.few
  obtain ⟨oa, cap, hvp, _, _, _, hat⟩ := row_shape h.parts
  rw [← HPL.out] at hvp hat
  subst hvp
  have HI := hid h
  have c3 := h.c3
  have hqlt : q < w.heap.size := h.lt (.inl rfl)
  have hmk := make30 w I.parts.length (by omega)
  have HST := hid (PInv.start w I.parts (by omega))
  have d3 := (h.under HST.out.choose_spec.2.2.2.2).c3
  clear hz1 hz2 hz3 h
  go_enter Tryz.func23, Tryz.ntmps23
  go_upto_region 2 with fail
  clear hmk c3
  generalize w.alloc (.cells (zA I.parts.length) 54) = W0 at *
  go_wp2_with fail
  go_loopg [17] I.parts.length (fun kx s wr => ∃ k : Nat, k ≤ I.parts.length ∧ I.parts.length - k ≤ kx ∧ s = .int .i64 (k : Int) ∧ Hid (PInv w wr I.parts k))
  case atStart => exact ⟨0, Nat.zero_le _, by omega, rfl, HST.out⟩
  case round =>
    obtain ⟨k, hk, hkx, rfl, HK⟩ := hrel
    by_cases hlt : k < I.parts.length
    · obtain ⟨g, rfl⟩ := hat (by omega)
      have hbw := HK.out.choose_spec.2.2.2.2
      have h2 := HI.out.under hbw
      have hxi : ps[k]? = some ps[k] := List.getElem?_eq_getElem (by rw [← HPL.out]; exact hlt)
      have hxc := fun t ht u hu => (h2.at_ k _ hxi t ht u hu)
      have hpm := (h2.each ps[k] (by simp)).1
      have hpp : ps[k].2 = I.parts[k] := by
        have e : (ps.map (·.2))[k]? = some I.parts[k] := by rw [← h2.abs]; exact List.getElem?_eq_getElem hlt
        rw [List.getElem?_map, hxi] at e
        simpa using e
      rw [hpp] at hpm
      obtain ⟨a1, c1, a2, c2, a3, c3, a4, c4, hu, _⟩ := hpm.open
      rw [hu] at hxc hpm
      have HPM := hid hpm
      have HNX : Hid (∀ W N v, Below wr.heap.size wr W → PartM W v I.parts[k] → InP (fun j => wr.heap.size ≤ j) v I.parts[k] → PutsR W N w.heap.size (k * 9) (pc v) → PInv w N I.parts (k + 1)) := fun W N v hb hv hX hN => HK.out.next hlt hb hv hX hN
      obtain ⟨cur, hcur, hcs⟩ := HK.out.lt
      have HCU := hid (And.intro hcur hcs)
      have hglt : w.heap.size < wr.heap.size := (Array.getElem?_eq_some_iff.1 hcur).1
      have hx9 : k * 9 + 9 ≤ I.parts.length * 9 := by omega
      generalize I.parts[k] = P at *
      have r0 := hxc 0 (by decide) _ rfl
      have r1 := hxc 1 (by decide) _ rfl
      have r2 := hxc 2 (by decide) _ rfl
      have r3 := hxc 3 (by decide) _ rfl
      have r4 := hxc 4 (by decide) _ rfl
      have r5 := hxc 5 (by decide) _ rfl
      have r6 := hxc 6 (by decide) _ rfl
      have r7 := hxc 7 (by decide) _ rfl
      have r8 := hxc 8 (by decide) _ rfl
      rw [Nat.add_zero] at r0
      have hlt' : (k : Int) < (I.parts.length : Int) := by omega
      have HBW : Hid (Below wr.heap.size wr (wr.alloc (.cells #[.int .i64 P.id, .int .i64 P.leader, .int .i64 P.epoch, .int .i64 P.ver, .slice a1 P.isr.length c1, .slice a2 P.reps.length c2, .slice a3 P.add.length c3, .slice a4 P.rem.length c4, .int .i64 P.min] 54))) := (Below.refl _ _).alloc (Nat.le_refl _) _
      have HCL := hid (clone_any (HPM.out.under HBW.out))
      clear hxc hpm hpp hxi h2 hu hcur hcs HK hbw d3
      go_wp2_with fail
      refine HCL.out.mono ?_
      rintro e W2 ⟨v2, rfl, hv2, hX2, hb2⟩
      have hbb : Below wr.heap.size wr W2 := HBW.out.trans (hb2.mono HBW.out.size)
      have hcu := (hbb.block _ hglt).trans HCU.out.1
      have hcz := HCU.out.2
      have HC := hid (fun N => HNX.out W2 N v2 hbb hv2 (hX2.mono (fun j hj => Nat.le_trans HBW.out.size hj)))
      obtain ⟨z1, y1, z2, y2, z3, y3, z4, y4, rfl, _⟩ := hv2.open
      have HEND := hid (HC.out _ (puts_all [.int .i64 P.id, .int .i64 P.leader, .int .i64 P.epoch, .int .i64 P.ver, .slice z1 P.isr.length y1, .slice z2 P.reps.length y2, .slice z3 P.add.length y3, .slice z4 P.rem.length y4, .int .i64 P.min] W2 w.heap.size (k * 9)))
      have cc : ∀ t, t < 9 → ∃ u, W2.cell? ⟨w.heap.size, k * 9 + t, none⟩ = some u := fun t ht => ⟨_, cell_blk hcu (k * 9 + t) _ (Array.getElem?_eq_getElem (by omega))⟩
      obtain ⟨u0, s0⟩ := cc 0 (by decide)
      obtain ⟨u1, s1⟩ := cc 1 (by decide)
      obtain ⟨u2, s2⟩ := cc 2 (by decide)
      obtain ⟨u3, s3⟩ := cc 3 (by decide)
      obtain ⟨u4, s4⟩ := cc 4 (by decide)
      obtain ⟨u5, s5⟩ := cc 5 (by decide)
      obtain ⟨u6, s6⟩ := cc 6 (by decide)
      obtain ⟨u7, s7⟩ := cc 7 (by decide)
      obtain ⟨u8, s8⟩ := cc 8 (by decide)
      rw [Nat.add_zero] at s0
      have f0 := frz_blk hcu (k * 9)
      have f1 := frz_blk hcu (k * 9 + 1)
      have f2 := frz_blk hcu (k * 9 + 2)
      have f3 := frz_blk hcu (k * 9 + 3)
      have f4 := frz_blk hcu (k * 9 + 4)
      have f5 := frz_blk hcu (k * 9 + 5)
      have f6 := frz_blk hcu (k * 9 + 6)
      have f7 := frz_blk hcu (k * 9 + 7)
      have f8 := frz_blk hcu (k * 9 + 8)
      clear hv2 hX2 hb2 hbb hcu hcz cc HC HCL HNX HPM HBW HCU r0 r1 r2 r3 r4 r5 r6 r7 r8
      go_wp2_with fail
      go_roundg (I.parts.length - (k + 1))
      case measure => omega
      case rel => exact ⟨k + 1, by omega, Nat.le_refl _, by go_num, HEND.out⟩
    · have hlt' : ¬ (k : Int) < (I.parts.length : Int) := by omega
      go_wp2_with fail
      go_ret
      obtain ⟨g1, g2⟩ := HK.out.done (by omega)
      exact ⟨_, rfl, g1, g2⟩
end Go.Proofs.YtcffomhcmilcpaaGreat

