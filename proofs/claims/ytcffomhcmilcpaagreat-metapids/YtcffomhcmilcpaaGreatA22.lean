/- The chapter's examples. -/
import Derived.Test.YtcffomhcmilcpaaGreatA21
import Derived.Test.YtcffomhcmilcpaaGreatA2a
namespace Go.Proofs.YtcffomhcmilcpaaGreat
open Go.RowKit Go.Maps
set_option maxRecDepth 100000
set_option linter.unusedSimpArgs false
set_option linter.unusedVariables false

theorem noX : ∀ (W : World) (k : Nat), (fun _ : Nat => False) k → k < W.heap.size := fun _ _ h => h.elim
theorem small (n : Int) (h : -1000 ≤ n ∧ n ≤ 1000) : I64 n := by unfold I64; omega
theorem app_sh (k : Nat) (h : k < 4) : (shI k).applied < 1000000000000 := by
  have : k = 0 ∨ k = 1 ∨ k = 2 ∨ k = 3 := by omega
  rcases this with rfl | rfl | rfl | rfl
  · exact (by decide : (0 : Int) < 1000000000000)
  · exact (by decide : (2 : Int) < 1000000000000)
  · exact (by decide : (4 : Int) < 1000000000000)
  · exact (by decide : (6 : Int) < 1000000000000)
theorem app_reg (k : Nat) (h : k < 3) : (applyI (shI k) (rcR 1 ((k : Int) + 1) 1 0)).1.applied < 1000000000000 := by
  have : k = 0 ∨ k = 1 ∨ k = 2 := by omega
  rcases this with rfl | rfl | rfl
  · exact (by decide : (1 : Int) < 1000000000000)
  · exact (by decide : (3 : Int) < 1000000000000)
  · exact (by decide : (5 : Int) < 1000000000000)
theorem res_4 : applyI (shI 3) (rcR 4 2 2 1) = (sh4.1, 1, 0) := by show sh4 = _; rw [← sh4_two]
theorem app_4 : (shI 3).applied < 1000000000000 := app_sh 3 (by omega)
theorem res_5 : applyI sh4.1 (rcR 2 1 1 0) = (sh5.1, 1, 0) := by show sh5 = _; rw [← sh5_two]
theorem app_5 : sh4.1.applied < 1000000000000 := (by decide : (7 : Int) < 1000000000000)
theorem res_6 : applyI sh5.1 (rcR 1 1 1 0) = (sh6.1, 0, 13) := by show sh6 = _; rw [← sh6_two]
theorem app_6 : sh5.1.applied < 1000000000000 := (by decide : (8 : Int) < 1000000000000)
theorem res_7 : applyI sh6.1 (rcR 4 1 1 1) = (sh7.1, 0, 9) := by show sh7 = _; rw [← sh7_two]
theorem app_7 : sh6.1.applied < 1000000000000 := by rw [sh6_app]; decide
theorem res_8 : applyI sh7.1 (rcR 8 0 0 0) = (sh8.1, 1, 0) := by show sh8 = _; rw [← sh8_two]
theorem app_8 : sh7.1.applied < 1000000000000 := by rw [sh7_app]; decide
theorem res_9 : applyI sh8.1 (rcR 8 1 0 0) = (sh9.1, 1, 0) := by show sh9 = _; rw [← sh9_two]
theorem app_9 : sh8.1.applied < 1000000000000 := by rw [sh8_app]; decide
set_option maxHeartbeats 20000000 in
theorem shown_any (w : World) : Calls Tryz.prog 9 #[] w fun e w' => e = .returned (.bool true) ∧ Below w.heap.size w w' := by
  have HNEW := hid (new_any w)
  go_enter Tryz.func9, Tryz.ntmps9
  go_wp2_with fail
  refine HNEW.out.mono ?_
  rintro e W0 ⟨rfl, hi0, hb0⟩
  have HS0 := hid (IS.new w (X := fun _ => False) (Below.refl _ _) (noX w) hi0 hb0)
  clear hi0 hb0 HNEW
  generalize w.heap.size + 1 = q at *
  go_wp2_with fail
  go_loopg [2] 3 (fun kx s2 wr => ∃ k : Nat, k ≤ 3 ∧ 3 - k ≤ kx ∧ s2 = .int .i64 ((k : Int) + 1) ∧ Hid (IS w wr q (shI k) (fun _ => False)))
  case atStart => exact ⟨0, Nat.zero_le _, by omega, rfl, HS0.out⟩
  case round =>
    obtain ⟨k, hk, hkx, rfl, HS⟩ := hrel
    clear HS0
    by_cases hlt : k < 3
    · have H1 := hid (sh_reg k hlt)
      have H2 := hid (sh_unf k hlt)
      have HA1 := hid (app_sh k (by omega))
      have HA2 := hid (app_reg k hlt)
      obtain ⟨z, hz⟩ : ∃ z : Int, z = (k : Int) + 1 := ⟨_, rfl⟩
      have HSK : Hid (shI (k + 1) = (applyI (applyI (shI k) (rcR 1 z 1 0)).1 (rcR 3 z 1 0)).1) := by show _ = _; rw [hz]; rfl
      have hz1 : 1 ≤ z ∧ z ≤ 3 := by omega
      obtain ⟨hza, hzb⟩ := hz1
      have HZ := hid hz
      rw [← hz] at H1 H2 HA2 ⊢
      clear hz
      obtain ⟨J1, hJ1⟩ : ∃ J, J = applyI (shI k) (rcR 1 z 1 0) := ⟨_, rfl⟩
      rw [← hJ1] at H1 H2 HSK HA2
      obtain ⟨J2, hJ2⟩ : ∃ J, J = applyI J1.1 (rcR 3 z 1 0) := ⟨_, rfl⟩
      rw [← hJ2] at H2 HSK
      have HR1 : Hid (applyI (shI k) (rcR 1 z 1 0) = (J1.1, z, 0)) := by show _ = _; rw [← hJ1, ← H1.out]
      have HR2 : Hid (applyI J1.1 (rcR 3 z 1 0) = (J2.1, z, 0)) := by show _ = _; rw [← hJ2, ← H2.out]
      have HC1 : Hid (∀ W, IS w W q (shI k) (fun _ => False) → Calls Tryz.prog 12 #[.pointer (some ⟨q, 0, none⟩), recV 1 z 1 0] W fun e w' => e = .returned (.tuple #[.int .i64 z, .int .i64 0]) ∧ ISOut w W w' q J1.1 (fun _ => False)) := fun W h => h.rec (noX W) HA1.out 1 z 1 0 (by omega) (small _ (by omega)) (small _ (by omega)) (small _ (by omega)) (small _ (by omega)) HR1.out
      have HC2 : Hid (∀ W, IS w W q J1.1 (fun _ => False) → Calls Tryz.prog 12 #[.pointer (some ⟨q, 0, none⟩), recV 3 z 1 0] W fun e w' => e = .returned (.tuple #[.int .i64 z, .int .i64 0]) ∧ ISOut w W w' q J2.1 (fun _ => False)) := fun W h => h.rec (noX W) HA2.out 3 z 1 0 (by omega) (small _ (by omega)) (small _ (by omega)) (small _ (by omega)) (small _ (by omega)) HR2.out
      clear hJ1 hJ2 HR1 HR2 H1 H2 HA1 HA2
      have hz3 : z ≤ 3 := hzb
      go_wp2_with fail
      refine (rec_any 1 z 1 0 _).mono ?_
      rintro e w1 ⟨rfl, hb1⟩
      have HD1 := hid (HC1.out w1 (HS.out.under hb1))
      clear hb1 HC1 HS
      go_wp2_with fail
      refine HD1.out.mono ?_
      rintro e w2 ⟨rfl, ho2⟩
      have HS2 := hid ho2.1
      clear ho2 HD1
      go_wp2_with fail
      refine (rec_any 3 z 1 0 _).mono ?_
      rintro e w3 ⟨rfl, hb3⟩
      have HD2 := hid (HC2.out w3 (HS2.out.under hb3))
      clear hb3 HC2 HS2
      go_wp2_with fail
      refine HD2.out.mono ?_
      rintro e w4 ⟨rfl, ho4⟩
      have HS4 : Hid (IS w w4 q (shI (k + 1)) (fun _ => False)) := by show IS _ _ _ _ _; rw [HSK.out]; exact ho4.1
      clear ho4 HD2 HSK
      have hwz : IntKind.i64.wrap (z + 1) = z + 1 := IntWalk.i64_in _ ⟨by omega, by omega⟩
      go_wp2_with fail
      go_roundg (3 - (k + 1))
      case measure => omega
      case rel => exact ⟨k + 1, by omega, Nat.le_refl _, by rw [HZ.out]; push_cast; rfl, HS4.out⟩
    · have hk3 : k = 3 := by omega
      subst hk3
      clear hlt hk hkx
      have HC4 : Hid (∀ W, IS w W q (shI 3) (fun _ => False) → (∀ k, (fun _ => False) k → k < W.heap.size) → Calls Tryz.prog 12 #[.pointer (some ⟨q, 0, none⟩), recV 4 2 2 1] W fun e w' => e = .returned (.tuple #[.int .i64 1, .int .i64 0]) ∧ ISOut w W w' q sh4.1 (fun _ => False)) := fun W h hX => h.rec hX (app_4) 4 2 2 1 (by omega) (small _ (by omega)) (small _ (by omega)) (small _ (by omega)) (small _ (by omega)) res_4
      go_wp2_with fail
      refine (rec_any 4 2 2 1 _).mono ?_
      rintro e v4 ⟨rfl, hb⟩
      have HD := hid (HC4.out v4 (HS.out.under hb) (noX _))
      have HBK := hid hb
      clear hb HS
      go_wp2_with fail
      refine HD.out.mono ?_
      rintro e u4 ⟨rfl, ho⟩
      have HS4 := hid ho.1
      clear ho HD HBK
      have HP2 := hid (HS4.out.part 1 (newP 2 [2, 3] 1) (by rw [sh4_part]; rfl) 2 rfl)
      go_wp2_with fail
      refine HP2.out.mono ?_
      rintro e w5 ⟨pv, rfl, hp1, hp2, hb5⟩
      have HPM := hid hp1
      obtain ⟨x1, y1, x2, y2, x3, y3, x4, y4, rfl, _⟩ := hp1.open
      have HS5 := hid (HS4.out.under hb5)
      clear hp1 hp2 hb5 HS4 HP2
      simp only [newP, headL, List.headD_cons, List.length_cons, List.length_nil, Nat.zero_add, Nat.reduceAdd]
      go_upto_region 13 with fail
      have HBX := hid (heap_alloc_new w5 (.cells #[.int .i64 2, .int .i64 2, .int .i64 1, .int .i64 1, .slice x1 2 y1, .slice x2 2 y2, .slice x3 0 y3, .slice x4 0 y4, .int .i64 1] 54))
      have HS6 : Hid (IS w (w5.alloc (.cells #[.int .i64 2, .int .i64 2, .int .i64 1, .int .i64 1, .slice x1 2 y1, .slice x2 2 y2, .slice x3 0 y3, .slice x4 0 y4, .int .i64 1] 54)) q sh4.1 (fun k => k = w5.heap.size)) := (HS5.out.more (fun k hk => .inr (by omega))).under ((Below.refl _ _).alloc (Nat.le_refl _) _)
      have HR6 : Hid (IL (w5.alloc (.cells #[.int .i64 2, .int .i64 2, .int .i64 1, .int .i64 1, .slice x1 2 y1, .slice x2 2 y2, .slice x3 0 y3, .slice x4 0 y4, .int .i64 1] 54)) (.slice x2 2 y2) [2, 3]) := by
        obtain ⟨a, b, c, d, e, _, j2, _⟩ := HPM.out.under ((Below.refl _ w5).alloc (Nat.le_refl _) (.cells #[.int .i64 2, .int .i64 2, .int .i64 1, .int .i64 1, .slice x1 2 y1, .slice x2 2 y2, .slice x3 0 y3, .slice x4 0 y4, .int .i64 1] 54))
        simp only [Value.agg.injEq] at e
        have e5 := congrArg (fun z => z[5]?) e
        simp at e5
        rw [← e5] at j2
        exact j2
      generalize w5.alloc (.cells #[.int .i64 2, .int .i64 2, .int .i64 1, .int .i64 1, .slice x1 2 y1, .slice x2 2 y2, .slice x3 0 y3, .slice x4 0 y4, .int .i64 1] 54) = W6 at *
      obtain ⟨y, hy⟩ : ∃ y, y = w5.heap.size := ⟨_, rfl⟩
      rw [← hy] at HBX HS6 ⊢
      have hyw : w.heap.size ≤ y := by rw [hy]; exact HS5.out.below.size
      clear hy HS5 HPM
      have g5 := cell_blk HBX.out 5 _ rfl
      have hyl := (Array.getElem?_eq_some_iff.1 HBX.out).1
      have hyn : ¬ y = W6.heap.size := by omega
      have HB6 : Hid (Below W6.heap.size W6 (W6.alloc (.cells #[.int .i64 2, .int .i64 3] 3))) := (Below.refl _ _).alloc (Nat.le_refl _) _
      have HSL := hid (sameList_any (HR6.out.under HB6.out) (il_lit [2, 3] (heap_alloc_new W6 (.cells #[.int .i64 2, .int .i64 3] 3)) (fun x hx => small _ (by simp at hx; omega)) (by simp)))
      have HT : Hid (decide (([2, 3] : List Int) = [2, 3]) = true) := by show _ = _; decide
      rw [HT.out] at HSL
      go_wp2_with fail
      refine HSL.out.mono ?_
      rintro e w7 ⟨rfl, hb7⟩
      have HS7 := hid (HS6.out.under (HB6.out.trans (hb7.mono HB6.out.size)))
      have HBX7 := hid (((HB6.out.trans (hb7.mono HB6.out.size)).block y hyl).trans HBX.out)
      have c1 := cell_blk HBX7.out 1 _ rfl
      clear hb7 HSL HB6 HR6 HS6 HBX g5 hyl hyn
      have HC5 : Hid (∀ W, IS w W q sh4.1 (fun k => k = y) → (∀ k, (fun k => k = y) k → k < W.heap.size) → Calls Tryz.prog 12 #[.pointer (some ⟨q, 0, none⟩), recV 2 1 1 0] W fun e w' => e = .returned (.tuple #[.int .i64 1, .int .i64 0]) ∧ ISOut w W w' q sh5.1 (fun k => k = y)) := fun W h hX => h.rec hX app_5 2 1 1 0 (by omega) (small _ (by omega)) (small _ (by omega)) (small _ (by omega)) (small _ (by omega)) res_5
      go_wp2_with fail
      refine (rec_any 2 1 1 0 _).mono ?_
      rintro e v5 ⟨rfl, hb⟩
      have HBV := hid ((hb.block y (Array.getElem?_eq_some_iff.1 HBX7.out).1).trans HBX7.out)
      have HD := hid (HC5.out v5 (HS7.out.under hb) (fun k hk => by cases hk; exact (Array.getElem?_eq_some_iff.1 HBV.out).1))
      clear hb HS7 HC5 HBX7
      go_wp2_with fail
      refine HD.out.mono ?_
      rintro e u5 ⟨rfl, ho⟩
      have HS8 := hid ho.1
      have HBX8 := hid ((ho.2.1 y rfl).trans HBV.out)
      clear ho HD HBV
      clear c1
      have HP1 := hid (HS8.out.part 0 ⟨1, 2, 2, 2, [2], [1, 2], [], [], 1⟩ (by rw [sh5_part]; rfl) 1 rfl)
      go_wp2_with fail
      refine HP1.out.mono ?_
      rintro e w9 ⟨pv, rfl, hp1, hp2, hb9⟩
      have HPM := hid hp1
      have HPN := hid hp2
      obtain ⟨z1, t1, z2, t2, z3, t3, z4, t4, rfl, _⟩ := hp1.open
      have HS9 := hid (HS8.out.under hb9)
      have HBX9 := hid ((hb9.block y (Array.getElem?_eq_some_iff.1 HBX8.out).1).trans HBX8.out)
      have hyu := (Array.getElem?_eq_some_iff.1 HBX8.out).1
      simp only [List.length_cons, List.length_nil, Nat.zero_add, Nat.reduceAdd]
      have k0 := cell_blk HBX9.out 0 _ rfl
      have k1 := cell_blk HBX9.out 1 _ rfl
      have k2 := cell_blk HBX9.out 2 _ rfl
      have k3 := cell_blk HBX9.out 3 _ rfl
      have k4 := cell_blk HBX9.out 4 _ rfl
      have k5 := cell_blk HBX9.out 5 _ rfl
      have k6 := cell_blk HBX9.out 6 _ rfl
      have k7 := cell_blk HBX9.out 7 _ rfl
      have k8 := cell_blk HBX9.out 8 _ rfl
      have fz := frz_blk HBX9.out
      obtain ⟨N, hN⟩ : ∃ N, N = puts w9 y 0 [.int .i64 1, .int .i64 2, .int .i64 2, .int .i64 2, .slice z1 1 t1, .slice z2 2 t2, .slice z3 0 t3, .slice z4 0 t4, .int .i64 1] := ⟨_, rfl⟩
      have HPU : Hid (PutsR w9 N y 0 [.int .i64 1, .int .i64 2, .int .i64 2, .int .i64 2, .slice z1 1 t1, .slice z2 2 t2, .slice z3 0 t3, .slice z4 0 t4, .int .i64 1]) := by rw [hN]; exact puts_all _ _ _ _
      have HN := hid hN
      have HBN := hid (HPU.out.box9 HBX9.out rfl)
      have HSN : Hid (IS w N q sh5.1 (fun k => k = y)) := HS9.out.beside (HPU.out.keeps (S := fun k => k = y) rfl) (HPU.out.below HS9.out.below hyw)
      have HRN : Hid (IL N (.slice z1 1 t1) [2]) := by
        obtain ⟨a, b, c, d, e, j1, _⟩ := HPM.out.kept HPN.out (w' := N) (fun k hk => HPU.out.other k (by omega)) (by rw [HPU.out.size]; exact Nat.le_refl _)
        simp only [Value.agg.injEq] at e
        have e5 := congrArg (fun z => z[4]?) e
        simp at e5
        rw [← e5] at j1
        exact j1
      go_upto_region 18 with fail
      show Code.wp Tryz.prog _ _ _ (puts w9 y 0 [.int .i64 1, .int .i64 2, .int .i64 2, .int .i64 2, .slice z1 1 t1, .slice z2 2 t2, .slice z3 0 t3, .slice z4 0 t4, .int .i64 1])
      rw [← HN.out]
      clear HN hN HPU HPM HPN HS9 HBX9 HS8 HBX8 HP1 hp1 hp2 hb9 k0 k1 k2 k3 k4 k5 k6 k7 k8 fz hyu
      have g4 := cell_blk HBN.out 4 _ rfl
      have hyl := (Array.getElem?_eq_some_iff.1 HBN.out).1
      have hyn : ¬ y = N.heap.size := by omega
      have HB6 : Hid (Below N.heap.size N (N.alloc (.cells #[.int .i64 2] 3))) := (Below.refl _ _).alloc (Nat.le_refl _) _
      have HSL := hid (sameList_any (HRN.out.under HB6.out) (il_lit [2] (heap_alloc_new N (.cells #[.int .i64 2] 3)) (fun x hx => small _ (by simp at hx; omega)) (by simp)))
      have HT2 : Hid (decide (([2] : List Int) = [2]) = true) := by show _ = _; decide
      rw [HT2.out] at HSL
      go_wp2_with fail
      refine HSL.out.mono ?_
      rintro e w10 ⟨rfl, hb10⟩
      have HSA := hid (HSN.out.under (HB6.out.trans (hb10.mono HB6.out.size)))
      have HBA := hid (((HB6.out.trans (hb10.mono HB6.out.size)).block y hyl).trans HBN.out)
      clear hb10 HSL HB6 HRN HSN HBN g4 hyl hyn
      have HC6 : Hid (∀ W, IS w W q sh5.1 (fun k => k = y) → (∀ k, (fun k => k = y) k → k < W.heap.size) → Calls Tryz.prog 12 #[.pointer (some ⟨q, 0, none⟩), recV 1 1 1 0] W fun e w' => e = .returned (.tuple #[.int .i64 0, .int .i64 13]) ∧ ISOut w W w' q sh6.1 (fun k => k = y)) := fun W h hX => h.rec hX app_6 1 1 1 0 (by omega) (small _ (by omega)) (small _ (by omega)) (small _ (by omega)) (small _ (by omega)) res_6
      go_wp2_with fail
      refine (rec_any 1 1 1 0 _).mono ?_
      rintro e v6 ⟨rfl, hb⟩
      have HBV := hid ((hb.block y (Array.getElem?_eq_some_iff.1 HBA.out).1).trans HBA.out)
      have HD := hid (HC6.out v6 (HSA.out.under hb) (fun k hk => by cases hk; exact (Array.getElem?_eq_some_iff.1 HBV.out).1))
      clear hb HSA HC6 HBA
      go_wp2_with fail
      refine HD.out.mono ?_
      rintro e u6 ⟨rfl, ho⟩
      have HSB := hid ho.1
      have HBB := hid ((ho.2.1 y rfl).trans HBV.out)
      clear ho HD HBV
      have HC7 : Hid (∀ W, IS w W q sh6.1 (fun k => k = y) → (∀ k, (fun k => k = y) k → k < W.heap.size) → Calls Tryz.prog 12 #[.pointer (some ⟨q, 0, none⟩), recV 4 1 1 1] W fun e w' => e = .returned (.tuple #[.int .i64 0, .int .i64 9]) ∧ ISOut w W w' q sh7.1 (fun k => k = y)) := fun W h hX => h.rec hX app_7 4 1 1 1 (by omega) (small _ (by omega)) (small _ (by omega)) (small _ (by omega)) (small _ (by omega)) res_7
      go_wp2_with fail
      refine (rec_any 4 1 1 1 _).mono ?_
      rintro e v7 ⟨rfl, hb⟩
      have HBV := hid ((hb.block y (Array.getElem?_eq_some_iff.1 HBB.out).1).trans HBB.out)
      have HD := hid (HC7.out v7 (HSB.out.under hb) (fun k hk => by cases hk; exact (Array.getElem?_eq_some_iff.1 HBV.out).1))
      clear hb HSB HC7 HBB
      go_wp2_with fail
      refine HD.out.mono ?_
      rintro e u7 ⟨rfl, ho⟩
      have HSC := hid ho.1
      have HBC := hid ((ho.2.1 y rfl).trans HBV.out)
      clear ho HD HBV
      have HC8 : Hid (∀ W, IS w W q sh7.1 (fun k => k = y) → (∀ k, (fun k => k = y) k → k < W.heap.size) → Calls Tryz.prog 12 #[.pointer (some ⟨q, 0, none⟩), recV 8 0 0 0] W fun e w' => e = .returned (.tuple #[.int .i64 1, .int .i64 0]) ∧ ISOut w W w' q sh8.1 (fun k => k = y)) := fun W h hX => h.rec hX app_8 8 0 0 0 (by omega) (small _ (by omega)) (small _ (by omega)) (small _ (by omega)) (small _ (by omega)) res_8
      go_wp2_with fail
      refine (rec_any 8 0 0 0 _).mono ?_
      rintro e v8 ⟨rfl, hb⟩
      have HBV := hid ((hb.block y (Array.getElem?_eq_some_iff.1 HBC.out).1).trans HBC.out)
      have HD := hid (HC8.out v8 (HSC.out.under hb) (fun k hk => by cases hk; exact (Array.getElem?_eq_some_iff.1 HBV.out).1))
      clear hb HSC HC8 HBC
      go_wp2_with fail
      refine HD.out.mono ?_
      rintro e u8 ⟨rfl, ho⟩
      have HSD := hid ho.1
      have HBD := hid ((ho.2.1 y rfl).trans HBV.out)
      clear ho HD HBV
      have HC9 : Hid (∀ W, IS w W q sh8.1 (fun k => k = y) → (∀ k, (fun k => k = y) k → k < W.heap.size) → Calls Tryz.prog 12 #[.pointer (some ⟨q, 0, none⟩), recV 8 1 0 0] W fun e w' => e = .returned (.tuple #[.int .i64 1, .int .i64 0]) ∧ ISOut w W w' q sh9.1 (fun k => k = y)) := fun W h hX => h.rec hX app_9 8 1 0 0 (by omega) (small _ (by omega)) (small _ (by omega)) (small _ (by omega)) (small _ (by omega)) res_9
      go_wp2_with fail
      refine (rec_any 8 1 0 0 _).mono ?_
      rintro e v9 ⟨rfl, hb⟩
      have HBV := hid ((hb.block y (Array.getElem?_eq_some_iff.1 HBD.out).1).trans HBD.out)
      have HD := hid (HC9.out v9 (HSD.out.under hb) (fun k hk => by cases hk; exact (Array.getElem?_eq_some_iff.1 HBV.out).1))
      clear hb HSD HC9 HBD
      go_wp2_with fail
      refine HD.out.mono ?_
      rintro e u9 ⟨rfl, ho⟩
      have HSE := hid ho.1
      have HBE := hid ((ho.2.1 y rfl).trans HBV.out)
      clear ho HD HBV
      have HAP := hid HSE.out.applied
      rw [sh9_app] at HAP
      have m1 := cell_blk HBE.out 1 _ rfl
      have m2 := cell_blk HBE.out 2 _ rfl
      have m3 := cell_blk HBE.out 3 _ rfl
      go_wp2_with fail
      refine HAP.out.mono ?_
      rintro e w11 ⟨rfl, rfl⟩
      go_wp2_with fail
      go_ret
      exact ⟨rfl, HSE.out.below⟩
end Go.Proofs.YtcffomhcmilcpaaGreat
