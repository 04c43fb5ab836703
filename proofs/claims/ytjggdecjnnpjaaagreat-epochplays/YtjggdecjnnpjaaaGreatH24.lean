/- The document's Delete. -/
import Derived.Test.YtjggdecjnnpjaaaGreatH19
import Derived.Deep.CutRange
namespace Go.Proofs.YtjggdecjnnpjaaaGreat
open Go.RowKit Go.Maps Go.Sort
set_option maxRecDepth 100000
set_option linter.unusedSimpArgs false
set_option linter.unusedVariables false

set_option maxHeartbeats 6400000 in
theorem rdel_any {w : World} {B : Nat → Prop} {q r name l size fs} (h : RD w B q r name l size fs) (hok : LOk size fs) (hk : EOk l) (hn : name.size ≤ maxLen) (o : Int) :
    Calls Tryz.prog 14 #[.pointer (some ⟨q, 0, none⟩), .int .i64 o] w fun e w' => RPost B w q r name l size fs (delC l o) e w' := by
  have H34 : Hid (Calls Tryz.prog 34 #[.int .i64 o] w fun en w' => en = .returned (.bool (inB o)) ∧ w = w') := (rmay_any o w).mono fun e w' ⟨e1, e2⟩ => ⟨e1, e2.symm⟩
  have HC : Hid (delC l o = if inB o then (0, delW l o) else (1, l)) := rfl
  have HD := hid h
  obtain ⟨D1, D2, D2b, D3⟩ := del_at hk o
  have HD3 := hid D3
  have HWr : Hid (inB o = true → ∀ W v', Below w.heap.size w W → W.ownsRow w.heap.size 51 3 v' (delW l o).length (flatA (delW l o)) → Calls Tryz.prog 36 #[.pointer (some ⟨q, 0, none⟩), v'] W fun e w' => RPost B w q r name l size fs (0, delW l o) e w') := fun hi W v' hb hr => h.write hok hk hn hb (delW_ok hk ((inB_iff o).1 hi)) hr rfl
  obtain ⟨U, T, v, dv, hRC, _, _, _⟩ := id h
  obtain ⟨oa, cap, rfl, hoa⟩ := hRC.ents.shape
  have HK2 : Hid (∀ W, Below w.heap.size w W → W.cell? ⟨q, 2, none⟩ = some (.slice oa l.length cap)) := fun W hb => (hRC.under hb).c.2.2
  have HAL := hid hRC.ents
  have hlen := hk.few
  clear h hok hk hRC D3
  cases hI : inB o with
  | false =>
    rw [hI] at H34 HC
    rw [if_neg (by simp)] at HC
    go_enter Tryz.func14, Tryz.ntmps14
    go_wp2_with (go_at_call 34; refine H34.out.mono ?_; rintro e w1 ⟨rfl, rfl⟩)
    go_ret
    rw [HC.out]
    exact rcall_err HD.out (Below.refl _ _) _ 1 (by omega)
  | true =>
    rw [hI] at H34 HC
    rw [if_pos rfl] at HC
    have HW2 := hid (HWr.out hI)
    obtain ⟨i0, hi0, hz0, hz1, hz2⟩ := info51
    have k2 := HK2.out w (Below.refl _ _)
    clear HWr
    go_enter Tryz.func14, Tryz.ntmps14
    go_wp2_with fail
    refine H34.out.mono ?_
    rintro e w1 ⟨rfl, rfl⟩
    go_wp2_with fail
    go_loopg [6, 7] l.length (fun kx s6 s7 wr => ∃ (k : Nat) (sv : Value), k ≤ l.length ∧ l.length - k ≤ kx ∧ s7 = .int .i64 (k : Int) ∧ sv = s6 ∧ Hid (wr.ownsRow w.heap.size 51 3 sv (k - skipN l o) (flatA ((delW l o).take (k - skipN l o))) ∧ Below w.heap.size w wr))
    case atStart => exact ⟨0, _, by omega, by omega, rfl, rfl, by
      rw [Nat.zero_sub]
      exact ⟨⟨by simp [flatA], .inl ⟨rfl, rfl⟩⟩, Below.refl _ _⟩⟩
    case round =>
      obtain ⟨k, sv, hkl, hkx, rfl, rfl, HI⟩ := hrel
      clear k2
      have k2 := HK2.out _ HI.out.2
      by_cases hlt : k < l.length
      · have hlt' : (k : Int) < (l.length : Int) := by omega
        obtain ⟨g, rfl⟩ := hoa (by omega)
        have hx : l[k]? = some l[k] := List.getElem?_eq_getElem hlt
        obtain ⟨r0, r1, r2⟩ := (HAL.out.under HI.out.2).at_ k _ hx
        obtain ⟨F1, F2, F3⟩ := HD3.out k _ hx
        have HF3 := hid F3
        have HX := hid hx
        clear hx F3
        generalize l[k] = x at *
        have d6 : IntKind.i64.wrap ((k : Int) + 1) = (k : Int) + 1 := IntWalk.i64_in _ (by omega)
        have d7 : (0 : Int) ≤ (k : Int) + 1 := by omega
        have d8 : ((k : Int) + 1).toNat = k + 1 := by omega
        go_upto_region 8 with fail
        go_cut [42] from 13 to 70 (fun s42 wx => s42 = .bool (decide (k < skipN l o)) ∧ wx = wr)
        case first =>
          by_cases hk1 : k + 1 < l.length
          · have hk1' : (k : Int) + 1 < (l.length : Int) := by omega
            have hy : l[k + 1]? = some l[k + 1] := List.getElem?_eq_getElem hk1
            obtain ⟨v0, v1, v2⟩ := (HAL.out.under HI.out.2).at_ (k + 1) _ hy
            have hF := F1 _ hy
            clear hy F1 F2
            generalize l[k + 1] = y at *
            have hdd : decide (y.2 ≤ o) = decide (k < skipN l o) := by simp only [hF]
            clear hF
            generalize decide (k < skipN l o) = dd at *
            go_wp2_with fail
            go_meet
            case rel => exact ⟨by first | rfl | (rw [hdd]; rfl) | (simp [hdd]), rfl⟩
          · have hk1' : ¬ (k : Int) + 1 < (l.length : Int) := by omega
            have hF := F2 (by omega)
            have HDD : Hid (decide (k < skipN l o) = false) := decide_eq_false (by omega)
            clear F1 F2 hF
            go_wp2_with fail
            go_meet
            case rel => exact ⟨by rw [HDD.out], rfl⟩
        case rest =>
          obtain ⟨rfl, hwc⟩ := hcut
          have hwc' := hwc.symm
          subst hwc'
          clear hwc F1 F2
          by_cases hks : k < skipN l o
          · rw [decide_eq_true hks]
            have e0 : k - skipN l o = k + 1 - skipN l o := by omega
            rw [e0] at HI
            clear e0
            go_wp2_with fail
            go_roundg (l.length - (k + 1))
            case measure => omega
            case rel => exact ⟨k + 1, sv, by omega, Nat.le_refl _, by go_num, rfl, HI⟩
          · rw [decide_eq_false hks]
            have hV := HF3.out (by omega)
            obtain ⟨N, hN⟩ : ∃ N, k - skipN l o = N := ⟨_, rfl⟩
            rw [hN] at HI hV
            have HNn : Hid (k - skipN l o = N ∧ ¬ k < skipN l o) := ⟨hN, hks⟩
            have hNle : N ≤ 200 := by omega
            obtain ⟨F, HFF⟩ : ∃ F, Hid (flatA ((delW l o).take N) = F) := ⟨_, rfl⟩
            rw [HFF.out] at HI
            have hsv : ∃ o' c', sv = .slice o' N c' := by
              rcases HI.out.1.2 with ⟨e, h0⟩ | ⟨g', cap', cur, e, _⟩
              · exact ⟨_, _, by rw [e, h0]⟩
              · exact ⟨_, _, e⟩
            obtain ⟨so, sc, rfl⟩ := hsv
            by_cases hkm : k = skipN l o
            · rw [if_pos hkm] at hV
              have hz' : ¬ (0 : Int) < (N : Int) := by omega
              clear hkm hN hks
              by_cases hxo : x.2 ≤ o
              · have hmx : max x.2 o = o := by omega
                rw [hmx] at hV
                have HVal := hid hV
                clear hV
                have hbs := HI.out.2.size
                have HRw : Hid (((wr.alloc (.cells #[.int .i64 x.1, .int .i64 o, .string ⟨#[]⟩] 51)).alloc (.cells #[.int .i64 x.1, .int .i64 o, .string ⟨#[]⟩] 51)).ownsRow w.heap.size 51 3 (.slice so N sc) N F) := ownsRow_kept HI.out.1 (fun j hj => by
                  have := (World.ownsRow.lt HI.out.1 j hj).2
                  rw [Below.heap_alloc _ _ _ (by simp; omega), Below.heap_alloc _ _ _ this])
                have hzz : (wr.alloc (.cells #[.int .i64 x.1, .int .i64 o, .string ⟨#[]⟩] 51)).heap.size = wr.heap.size + 1 := by simp
                have HNW : Hid (∀ j u, [Value.int .i64 x.1, .int .i64 o, .string ⟨#[]⟩][j]? = some u → ((wr.alloc (.cells #[.int .i64 x.1, .int .i64 o, .string ⟨#[]⟩] 51)).alloc (.cells #[.int .i64 x.1, .int .i64 o, .string ⟨#[]⟩] 51)).cell? ((⟨wr.heap.size + 1, 0, none⟩ : Addr).add j) = some u) := fun j u hu => by
                  rw [add_lit0]
                  have hh := heap_alloc_new (wr.alloc (.cells #[.int .i64 x.1, .int .i64 o, .string ⟨#[]⟩] 51)) (.cells #[.int .i64 x.1, .int .i64 o, .string ⟨#[]⟩] 51)
                  rw [hzz] at hh
                  exact cell_at hh (by simpa using hu)
                have HON : Hid (∀ u ∈ [Value.int .i64 x.1, .int .i64 o, .string ⟨#[]⟩], u.oneCell' = true) := fun u hu => by
                  simp at hu
                  rcases hu with rfl | rfl | rfl <;> rfl
                have HGR : Hid (∀ v' w2, w2.ownsRow w.heap.size 51 3 v' (N + 1) (F ++ [Value.int .i64 x.1, .int .i64 o, .string ⟨#[]⟩]) → ((wr.alloc (.cells #[.int .i64 x.1, .int .i64 o, .string ⟨#[]⟩] 51)).alloc (.cells #[.int .i64 x.1, .int .i64 o, .string ⟨#[]⟩] 51)).grownBy w2 (Value.slice so N sc).ownBlock → w2.ownsRow w.heap.size 51 3 v' (k + 1 - skipN l o) (flatA ((delW l o).take (k + 1 - skipN l o))) ∧ Below w.heap.size w w2) := fun v' w2 ho hg => by
                  have hba := (HI.out.2.alloc hbs (.cells #[.int .i64 x.1, .int .i64 o, .string ⟨#[]⟩] 51)).alloc (by simp; omega) (.cells #[.int .i64 x.1, .int .i64 o, .string ⟨#[]⟩] 51)
                  refine ⟨?_, hba.grown hg hba.size (fun j hj => (World.ownsRow.lt HI.out.1 j hj).1)⟩
                  have e1 : k + 1 - skipN l o = N + 1 := by have := HNn.out.1; have := HNn.out.2; omega
                  rw [e1, List.take_add_one, HVal.out, flatA_append, HFF.out]
                  exact ho
                go_wp2_with (at_builtin; go_loud (refine wpList_append_own_at _ rfl _ _ 44 rfl w.heap.size 51 i0 _ 3 32 Tryz.underlying44 hi0 hz0 hz1 hz2 rfl (by decide) _ N F rfl HRw.out ⟨wr.heap.size + 1, 0, none⟩ 1 1 [.int .i64 x.1, .int .i64 o, .string ⟨#[]⟩] rfl rfl HNW.out HON.out (by unfold maxLen; omega) (by omega) (by simp; omega) ?_; intro v' w2 hown2 hg2 _ hat))
                go_roundg (l.length - (k + 1))
                case measure => omega
                case rel => exact ⟨k + 1, v', by omega, Nat.le_refl _, by go_num, rfl, HGR.out _ _ hown2 hg2⟩
              · have hmx : max x.2 o = x.2 := by omega
                rw [hmx] at hV
                have HVal := hid hV
                clear hV
                have hbs := HI.out.2.size
                have HRw : Hid (((wr.alloc (.cells #[.int .i64 x.1, .int .i64 x.2, .string ⟨#[]⟩] 51)).alloc (.cells #[.int .i64 x.1, .int .i64 x.2, .string ⟨#[]⟩] 51)).ownsRow w.heap.size 51 3 (.slice so N sc) N F) := ownsRow_kept HI.out.1 (fun j hj => by
                  have := (World.ownsRow.lt HI.out.1 j hj).2
                  rw [Below.heap_alloc _ _ _ (by simp; omega), Below.heap_alloc _ _ _ this])
                have hzz : (wr.alloc (.cells #[.int .i64 x.1, .int .i64 x.2, .string ⟨#[]⟩] 51)).heap.size = wr.heap.size + 1 := by simp
                have HNW : Hid (∀ j u, [Value.int .i64 x.1, .int .i64 x.2, .string ⟨#[]⟩][j]? = some u → ((wr.alloc (.cells #[.int .i64 x.1, .int .i64 x.2, .string ⟨#[]⟩] 51)).alloc (.cells #[.int .i64 x.1, .int .i64 x.2, .string ⟨#[]⟩] 51)).cell? ((⟨wr.heap.size + 1, 0, none⟩ : Addr).add j) = some u) := fun j u hu => by
                  rw [add_lit0]
                  have hh := heap_alloc_new (wr.alloc (.cells #[.int .i64 x.1, .int .i64 x.2, .string ⟨#[]⟩] 51)) (.cells #[.int .i64 x.1, .int .i64 x.2, .string ⟨#[]⟩] 51)
                  rw [hzz] at hh
                  exact cell_at hh (by simpa using hu)
                have HON : Hid (∀ u ∈ [Value.int .i64 x.1, .int .i64 x.2, .string ⟨#[]⟩], u.oneCell' = true) := fun u hu => by
                  simp at hu
                  rcases hu with rfl | rfl | rfl <;> rfl
                have HGR : Hid (∀ v' w2, w2.ownsRow w.heap.size 51 3 v' (N + 1) (F ++ [Value.int .i64 x.1, .int .i64 x.2, .string ⟨#[]⟩]) → ((wr.alloc (.cells #[.int .i64 x.1, .int .i64 x.2, .string ⟨#[]⟩] 51)).alloc (.cells #[.int .i64 x.1, .int .i64 x.2, .string ⟨#[]⟩] 51)).grownBy w2 (Value.slice so N sc).ownBlock → w2.ownsRow w.heap.size 51 3 v' (k + 1 - skipN l o) (flatA ((delW l o).take (k + 1 - skipN l o))) ∧ Below w.heap.size w w2) := fun v' w2 ho hg => by
                  have hba := (HI.out.2.alloc hbs (.cells #[.int .i64 x.1, .int .i64 x.2, .string ⟨#[]⟩] 51)).alloc (by simp; omega) (.cells #[.int .i64 x.1, .int .i64 x.2, .string ⟨#[]⟩] 51)
                  refine ⟨?_, hba.grown hg hba.size (fun j hj => (World.ownsRow.lt HI.out.1 j hj).1)⟩
                  have e1 : k + 1 - skipN l o = N + 1 := by have := HNn.out.1; have := HNn.out.2; omega
                  rw [e1, List.take_add_one, HVal.out, flatA_append, HFF.out]
                  exact ho
                go_wp2_with (at_builtin; go_loud (refine wpList_append_own_at _ rfl _ _ 44 rfl w.heap.size 51 i0 _ 3 32 Tryz.underlying44 hi0 hz0 hz1 hz2 rfl (by decide) _ N F rfl HRw.out ⟨wr.heap.size + 1, 0, none⟩ 1 1 [.int .i64 x.1, .int .i64 x.2, .string ⟨#[]⟩] rfl rfl HNW.out HON.out (by unfold maxLen; omega) (by omega) (by simp; omega) ?_; intro v' w2 hown2 hg2 _ hat))
                go_roundg (l.length - (k + 1))
                case measure => omega
                case rel => exact ⟨k + 1, v', by omega, Nat.le_refl _, by go_num, rfl, HGR.out _ _ hown2 hg2⟩
            · rw [if_neg hkm] at hV
              have HVal := hid hV
              have hz' : (0 : Int) < (N : Int) := by omega
              have hbs0 := HI.out.2.size
              have hB1 := HI.out.2.alloc hbs0 (.cells #[.int .i64 x.1, .int .i64 (max x.2 o), .string ⟨#[]⟩] 51)
              have k3 := HK2.out _ hB1
              obtain ⟨s0, s1, s2⟩ := (HAL.out.under hB1).at_ k _ HX.out
              clear hV hkm hN hks hB1 hbs0
              have hbs := HI.out.2.size
              have HRw : Hid (((wr.alloc (.cells #[.int .i64 x.1, .int .i64 x.2, .string ⟨#[]⟩] 51)).alloc (.cells #[.int .i64 x.1, .int .i64 x.2, .string ⟨#[]⟩] 51)).ownsRow w.heap.size 51 3 (.slice so N sc) N F) := ownsRow_kept HI.out.1 (fun j hj => by
                have := (World.ownsRow.lt HI.out.1 j hj).2
                rw [Below.heap_alloc _ _ _ (by simp; omega), Below.heap_alloc _ _ _ this])
              have hzz : (wr.alloc (.cells #[.int .i64 x.1, .int .i64 x.2, .string ⟨#[]⟩] 51)).heap.size = wr.heap.size + 1 := by simp
              have HNW : Hid (∀ j u, [Value.int .i64 x.1, .int .i64 x.2, .string ⟨#[]⟩][j]? = some u → ((wr.alloc (.cells #[.int .i64 x.1, .int .i64 x.2, .string ⟨#[]⟩] 51)).alloc (.cells #[.int .i64 x.1, .int .i64 x.2, .string ⟨#[]⟩] 51)).cell? ((⟨wr.heap.size + 1, 0, none⟩ : Addr).add j) = some u) := fun j u hu => by
                rw [add_lit0]
                have hh := heap_alloc_new (wr.alloc (.cells #[.int .i64 x.1, .int .i64 x.2, .string ⟨#[]⟩] 51)) (.cells #[.int .i64 x.1, .int .i64 x.2, .string ⟨#[]⟩] 51)
                rw [hzz] at hh
                exact cell_at hh (by simpa using hu)
              have HON : Hid (∀ u ∈ [Value.int .i64 x.1, .int .i64 x.2, .string ⟨#[]⟩], u.oneCell' = true) := fun u hu => by
                simp at hu
                rcases hu with rfl | rfl | rfl <;> rfl
              have HGR : Hid (∀ v' w2, w2.ownsRow w.heap.size 51 3 v' (N + 1) (F ++ [Value.int .i64 x.1, .int .i64 x.2, .string ⟨#[]⟩]) → ((wr.alloc (.cells #[.int .i64 x.1, .int .i64 x.2, .string ⟨#[]⟩] 51)).alloc (.cells #[.int .i64 x.1, .int .i64 x.2, .string ⟨#[]⟩] 51)).grownBy w2 (Value.slice so N sc).ownBlock → w2.ownsRow w.heap.size 51 3 v' (k + 1 - skipN l o) (flatA ((delW l o).take (k + 1 - skipN l o))) ∧ Below w.heap.size w w2) := fun v' w2 ho hg => by
                have hba := (HI.out.2.alloc hbs (.cells #[.int .i64 x.1, .int .i64 x.2, .string ⟨#[]⟩] 51)).alloc (by simp; omega) (.cells #[.int .i64 x.1, .int .i64 x.2, .string ⟨#[]⟩] 51)
                refine ⟨?_, hba.grown hg hba.size (fun j hj => (World.ownsRow.lt HI.out.1 j hj).1)⟩
                have e1 : k + 1 - skipN l o = N + 1 := by have := HNn.out.1; have := HNn.out.2; omega
                rw [e1, List.take_add_one, HVal.out, flatA_append, HFF.out]
                exact ho
              go_wp2_with (at_builtin; go_loud (refine wpList_append_own_at _ rfl _ _ 44 rfl w.heap.size 51 i0 _ 3 32 Tryz.underlying44 hi0 hz0 hz1 hz2 rfl (by decide) _ N F rfl HRw.out ⟨wr.heap.size + 1, 0, none⟩ 1 1 [.int .i64 x.1, .int .i64 x.2, .string ⟨#[]⟩] rfl rfl HNW.out HON.out (by unfold maxLen; omega) (by omega) (by simp; omega) ?_; intro v' w2 hown2 hg2 _ hat))
              go_roundg (l.length - (k + 1))
              case measure => omega
              case rel => exact ⟨k + 1, v', by omega, Nat.le_refl _, by go_num, rfl, HGR.out _ _ hown2 hg2⟩
      · have hlt' : ¬ (k : Int) < (l.length : Int) := by omega
        have e : k = l.length := by omega
        subst e
        have e2 : (delW l o).take (l.length - skipN l o) = delW l o := List.take_of_length_le (by omega)
        rw [e2, ← D1] at HI
        have hsv : ∃ o' n' c', sv = .slice o' n' c' := by
          rcases HI.out.1.2 with ⟨e, h0⟩ | ⟨g', cap', cur, e, _⟩
          · exact ⟨_, _, _, e⟩
          · exact ⟨_, _, _, e⟩
        obtain ⟨so, sn, sc, rfl⟩ := hsv
        have HWz := hid (HW2.out _ _ HI.out.2 HI.out.1)
        go_wp2_with fail
        refine HWz.out.mono ?_
        rintro en w4 ⟨rfl, hp⟩
        have HP := hid hp
        clear hp
        go_wp2_with fail
        go_ret
        rw [HC.out]
        exact ⟨rfl, HP.out⟩

end Go.Proofs.YtjggdecjnnpjaaaGreat

