/- EpochRises. -/
import Derived.Test.YtjggdecjnnpjaaaHSc
import Derived.Test.YtjggdecjnnpjaaaHE20a
import Derived.Deep.CutRange
import Derived.Deep.CutBlock
namespace Go.Proofs.Ytjggdecjnnpjaaa
open Go.RowKit Go.Maps Go.Sort
set_option maxRecDepth 100000
set_option linter.unusedSimpArgs false
set_option linter.unusedVariables false

theorem cutC_lt {l : List (Int × Int)} {o : Int} (h : (cutC l o).1 = 0) : ∀ x ∈ (cutC l o).2, x.2 < o := by
  unfold cutC at h ⊢
  by_cases hb : inB o = true
  · rw [if_pos hb]; exact cutW_lt
  · rw [if_neg hb] at h; cases h
theorem delC_ge {l : List (Int × Int)} {o : Int} (h : (delC l o).1 = 0) : ∀ x ∈ (delC l o).2, o ≤ x.2 := by
  unfold delC at h ⊢
  by_cases hb : inB o = true
  · rw [if_pos hb]; exact delW_ge
  · rw [if_neg hb] at h; cases h
theorem OpsAt.at_ {w : World} {so : Option Addr} {ops : List OpV} (h : OpsAt w so ops) (i : Nat) (hi : i < ops.length) : ∃ b off, so = some ⟨b, off, none⟩ ∧ b < w.heap.size ∧ ops[i].ok ∧ OpCells w b (off + i * 3) ops[i] := by
  rcases h with h | ⟨b, off, e, hlt, hc⟩
  · subst h; simp at hi
  · exact ⟨b, off, e, hlt, hc i hi⟩
theorem pick4 (c : Int) : pickI c 4 = 0 ∨ pickI c 4 = 1 ∨ pickI c 4 = 2 ∨ pickI c 4 = 3 := by
  have := pickI_range c 4 (by omega)
  omega
/-- Behind the call that a script's line is. -/
structure SwPost (w1 w3 wx : World) (X : Nat → Prop) (q a : Nat) (r tick : Int) (l : List (Int × Int)) (E : Nat) (l' : List (Int × Int)) : Prop where
  cf : CFA w1 w3 wx X q a fname l' 100000
  err : E ≠ 0 → l' = l
  cut : E = 0 → r = 2 → ∀ x ∈ l', x.2 < tick
  del : E = 0 → r = 3 → ∀ x ∈ l', tick ≤ x.2

set_option maxHeartbeats 12800000 in
theorem rises_walk (w : World) (so : Option Addr) (cap0 : Nat) (ops : List OpV) (hops : OpsAt w so ops) (hlen : ops.length ≤ maxLen) (epoch next : Int) :
    Calls Try.prog 5 #[.slice so ops.length cap0, .int .i64 epoch, .int .i64 next] w fun e w' => e = .returned (.bool true) ∧ Below w.heap.size w w' := by
  unfold maxLen at hlen
  have H6 := hid (shown_any w)
  have HO : Hid (∀ W, Calls Try.prog 15 #[.int .i64 100000] W fun e w' => ∃ q a, e = .returned (.tuple #[.pointer (some ⟨q, 0, none⟩), .pointer (some ⟨a, 0, none⟩)]) ∧ CF W w' (fun _ => False) q a fname [] 100000 ∧ ∃ B, CD w' B q a fname [] 100000 [] ∧ ∀ k, B k → W.heap.size ≤ k) := fun W => opened_any 100000 (by omega) (by omega) W
  have HOps := hid hops
  clear hops
  go_enter Try.func5, Try.ntmps5
  go_wp2_with fail
  refine H6.out.mono ?_
  rintro e w1 ⟨rfl, hb1⟩
  have HB1 := hid hb1
  clear hb1 H6
  go_wp2_with fail
  refine (HO.out _).mono ?_
  rintro e w2 ⟨q, a, rfl, hc2, _⟩
  have C2 := hid hc2
  clear hc2 HO
  go_wp2_with fail
  go_loopg [10] ops.length (fun kx s10 wr => ∃ (k : Nat) (l : List (Int × Int)), k ≤ ops.length ∧ k ≤ 150 ∧ ops.length - k ≤ kx ∧ s10 = .int .i64 (k : Int) ∧ Hid (CF w1 wr (fun _ => False) q a fname l 100000))
  case atStart => exact ⟨0, [], by omega, by omega, by omega, rfl, C2⟩
  case round =>
    obtain ⟨k, l, hk, hk150, hkx, rfl, HI⟩ := hrel
    clear C2
    by_cases hlt : k < ops.length ∧ k < 150
    · have hlt1 : (k : Int) < (ops.length : Int) := by omega
      have hlt2 : (k : Int) < 150 := by omega
      obtain ⟨sb, sf, rfl, hsb, ⟨oi0, oi1, oi2⟩, hO0, hO1, hO2⟩ := (HOps.out.under (HB1.out.trans (HI.out.below.mono HB1.out.size))).at_ k hlt.1
      generalize ops[k] = o at *
      have hbA := (Below.refl wr.heap.size wr).alloc (Nat.le_refl _) (.cells #[.int .i64 o.kind, .int .i64 o.key, .int .i64 o.tick] 48)
      have hOx := heap_alloc_new wr (.cells #[.int .i64 o.kind, .int .i64 o.key, .int .i64 o.tick] 48)
      have hzA : (wr.alloc (.cells #[.int .i64 o.kind, .int .i64 o.key, .int .i64 o.tick] 48)).heap.size = wr.heap.size + 1 := by simp
      have CA := hid (HI.out.with hbA (fun x => x = wr.heap.size) (fun x hx => .inr ⟨by omega, by omega⟩))
      have HOx := hid hOx
      have HAll := hid CA.out.all
      have HPk : Hid (∀ W, Calls Try.prog 16 #[.int .i64 o.kind, .int .i64 4] W fun e w' => e = .returned (.int .i64 (pickI o.kind 4)) ∧ w' = W) := fun W => pick_any o.kind 4 W oi0.1 oi0.2 (by omega) (by omega)
      have hKl := HI.out.ok
      have HKl := hid hKl
      clear hbA hOx hKl
      go_wp2_with fail
      refine HAll.out.mono ?_
      rintro e w3 ⟨rv, rfl, hr3, hb3⟩
      have C3 := hid (CA.out.with hb3 (fun x => x = wr.heap.size ∨ rv.ownBlock = some x) (fun x hx => by
        rcases hx with hx | hx
        · exact .inl hx
        · exact .inr (World.ownsRow.lt hr3 x hx)))
      have O3 := hid ((hb3.block wr.heap.size (by omega)).trans HOx.out)
      have A3 := hid (AL.of hr3)
      have hs3 := hb3.size
      have q0 := cell_at O3.out (j := 0) rfl
      have q1 := cell_at O3.out (j := 1) rfl
      have q2 := cell_at O3.out (j := 2) rfl
      clear hr3 hb3 HAll CA HOx HI hO0 hO1 hO2
      generalize wr.heap.size = ob at *
      have HP4 := hid (pick4 o.kind)
      generalize pickI o.kind 4 = r at *
      go_wp2_with fail
      refine (HPk.out _).mono ?_
      rintro e w4 ⟨rfl, rfl⟩
      go_upto_block 2 with fail
      go_cut [13] from 35 to 171 (fun s13 wx => ∃ (E : Nat) (l' : List (Int × Int)), s13 = .int .i64 (E : Int) ∧ EOk l' ∧ Hid (SwPost w1 w4 wx (fun x => x = ob ∨ rv.ownBlock = some x) q a r o.tick l E l'))
      case first =>
        rcases HP4.out with hp | hp | hp | hp
        · have HC := hid (C3.out.begin fname_name fname_size o.key o.tick (len_bytes (beginW_ok HKl.out _ _) (by omega)))
          have HF : Hid (EOk (beginW l o.key o.tick).2 ∧ ((beginW l o.key o.tick).1 ≠ 0 → (beginW l o.key o.tick).2 = l) ∧ ((beginW l o.key o.tick).1 = 0 → r = 2 → ∀ x ∈ (beginW l o.key o.tick).2, x.2 < o.tick) ∧ ((beginW l o.key o.tick).1 = 0 → r = 3 → ∀ x ∈ (beginW l o.key o.tick).2, o.tick ≤ x.2)) := ⟨beginW_ok HKl.out o.key o.tick, beginW_err l o.key o.tick, fun _ h => by omega, fun _ h => by omega⟩
          generalize beginW l o.key o.tick = R at *
          obtain ⟨E, l'⟩ := R
          simp only at HC HF
          go_wp2_with fail
          refine HC.out.mono ?_
          rintro e w5 ⟨rfl, hcfa⟩
          have HA5 := hid hcfa
          clear hcfa HC
          go_wp2_with fail
          go_meet
          case rel => exact ⟨E, l', rfl, HF.out.1, HA5.out, HF.out.2.1, HF.out.2.2.1, HF.out.2.2.2⟩
        · have HC := hid (C3.out.begin fname_name fname_size o.key o.tick (len_bytes (beginW_ok HKl.out _ _) (by omega)))
          have HF : Hid (EOk (beginW l o.key o.tick).2 ∧ ((beginW l o.key o.tick).1 ≠ 0 → (beginW l o.key o.tick).2 = l) ∧ ((beginW l o.key o.tick).1 = 0 → r = 2 → ∀ x ∈ (beginW l o.key o.tick).2, x.2 < o.tick) ∧ ((beginW l o.key o.tick).1 = 0 → r = 3 → ∀ x ∈ (beginW l o.key o.tick).2, o.tick ≤ x.2)) := ⟨beginW_ok HKl.out o.key o.tick, beginW_err l o.key o.tick, fun _ h => by omega, fun _ h => by omega⟩
          generalize beginW l o.key o.tick = R at *
          obtain ⟨E, l'⟩ := R
          simp only at HC HF
          go_wp2_with fail
          refine HC.out.mono ?_
          rintro e w5 ⟨rfl, hcfa⟩
          have HA5 := hid hcfa
          clear hcfa HC
          go_wp2_with fail
          go_meet
          case rel => exact ⟨E, l', rfl, HF.out.1, HA5.out, HF.out.2.1, HF.out.2.2.1, HF.out.2.2.2⟩
        · have HC := hid (C3.out.cut fname_name fname_size o.tick (len_bytes (cutC_ok HKl.out _) (by omega)))
          have HF : Hid (EOk (cutC l o.tick).2 ∧ ((cutC l o.tick).1 ≠ 0 → (cutC l o.tick).2 = l) ∧ ((cutC l o.tick).1 = 0 → r = 2 → ∀ x ∈ (cutC l o.tick).2, x.2 < o.tick) ∧ ((cutC l o.tick).1 = 0 → r = 3 → ∀ x ∈ (cutC l o.tick).2, o.tick ≤ x.2)) := ⟨cutC_ok HKl.out o.tick, cutC_err l o.tick, fun h _ => cutC_lt h, fun _ h => by omega⟩
          generalize cutC l o.tick = R at *
          obtain ⟨E, l'⟩ := R
          simp only at HC HF
          go_wp2_with fail
          refine HC.out.mono ?_
          rintro e w5 ⟨rfl, hcfa⟩
          have HA5 := hid hcfa
          clear hcfa HC
          go_wp2_with fail
          go_meet
          case rel => exact ⟨E, l', rfl, HF.out.1, HA5.out, HF.out.2.1, HF.out.2.2.1, HF.out.2.2.2⟩
        · have HC := hid (C3.out.del fname_name fname_size o.tick (len_bytes (delC_ok HKl.out _) (by omega)))
          have HF : Hid (EOk (delC l o.tick).2 ∧ ((delC l o.tick).1 ≠ 0 → (delC l o.tick).2 = l) ∧ ((delC l o.tick).1 = 0 → r = 2 → ∀ x ∈ (delC l o.tick).2, x.2 < o.tick) ∧ ((delC l o.tick).1 = 0 → r = 3 → ∀ x ∈ (delC l o.tick).2, o.tick ≤ x.2)) := ⟨delC_ok HKl.out o.tick, delC_err l o.tick, fun _ h => by omega, fun h _ => delC_ge h⟩
          generalize delC l o.tick = R at *
          obtain ⟨E, l'⟩ := R
          simp only at HC HF
          go_wp2_with fail
          refine HC.out.mono ?_
          rintro e w5 ⟨rfl, hcfa⟩
          have HA5 := hid hcfa
          clear hcfa HC
          go_wp2_with fail
          go_meet
          case rel => exact ⟨E, l', rfl, HF.out.1, HA5.out, HF.out.2.1, HF.out.2.2.1, HF.out.2.2.2⟩
      case rest =>
        obtain ⟨E, l', rfl, hKK, HSW⟩ := hcut
        have HK := hid hKK
        obtain ⟨hc5, hx5, hs5⟩ := HSW.out.cf
        have C5 := hid hc5
        have O5 := hid ((hx5 ob (.inl rfl)).trans O3.out)
        have A5 := hid (A3.out.kept hs5 (fun x hx _ => hx5 x (.inr hx)))
        have HAll := hid C5.out.all
        clear hc5 hx5 C3 O3 A3 q0 q1 q2 hKK
        go_wp2_with fail
        refine HAll.out.mono ?_
        rintro e w6 ⟨lv, rfl, hr6, hb6⟩
        have AL6 := hid (AL.of hr6)
        have A6 := hid (A5.out.under hb6)
        have C6 := hid (C5.out.under hb6)
        have HO6 := hid ((hb6.block ob (by omega)).trans O5.out)
        have hs6 := hb6.size
        have hl200 := HK.out.few
        have hl200' := HKl.out.few
        have HS := hid (same_any AL6.out A6.out (by omega) (by omega))
        obtain ⟨lo, lc, rfl, hlo⟩ := AL6.out.shape
        obtain ⟨ro, rc, rfl, _⟩ := A6.out.shape
        clear hr6 hb6 HAll A5 O5 C5
        go_wp2_with fail
        refine HS.out.mono ?_
        rintro e w7 ⟨rfl, hb7⟩
        have AL7 := hid (AL6.out.under hb7)
        have HO7 := hid ((hb7.block ob (by omega)).trans HO6.out)
        have C7 := hid (C6.out.under hb7)
        have hs7 := hb7.size
        clear hb7 HS AL6 A6 C6 HO6
        have hEE : E = 0 ∨ decide (l' = l) = true := by
          by_cases hE : E = 0
          · exact .inl hE
          · exact .inr (decide_eq_true (HSW.out.err hE))
        generalize decide (l' = l) = dd at *
        go_upto_region 21 with fail
        go_cut [85] from 35 to 171 (fun s85 wx => s85 = .bool false ∧ wx = w7)
        case first =>
          by_cases hE : E = 0
          · have hE1 : ((E : Int) != 0) = false := by simp; omega
            go_wp2_with fail
            go_meet
            case rel => exact ⟨rfl, rfl⟩
          · have hE1 : ((E : Int) != 0) = true := by simp; omega
            have hdd : dd = true := by
              rcases hEE with h | h
              · exact absurd h hE
              · exact h
            subst hdd
            go_wp2_with fail
            go_meet
            case rel => exact ⟨rfl, rfl⟩
        case rest =>
          obtain ⟨rfl, hwc⟩ := hcut
          have hwc' := hwc.symm
          subst hwc'
          clear hwc
          go_wp2_with fail
          go_loopg [16] l'.length (fun jx s16 wq => ∃ j : Nat, j ≤ l'.length ∧ l'.length - j ≤ jx ∧ s16 = .int .i64 (j : Int) ∧ Hid (Below w7.heap.size w7 wq))
          case atStart => exact ⟨0, by omega, by omega, rfl, Below.refl _ _⟩
          case round =>
            obtain ⟨j, hj, hjx, rfl, HJ⟩ := hrel
            by_cases hjl : j < l'.length
            · have hjl' : (j : Int) < (l'.length : Int) := by omega
              have hx : l'[j]? = some l'[j] := List.getElem?_eq_getElem hjl
              obtain ⟨lg, rfl⟩ := hlo (by omega)
              obtain ⟨y0, y1, y2⟩ := (AL7.out.under HJ.out).at_ j _ hx
              obtain ⟨hxn1, hxn2⟩ := HK.out.num l'[j] (List.getElem_mem hjl)
              have hxm := List.getElem_mem hjl
              have HX := hid hx
              have HXM := hid hxm
              clear hx hxm
              generalize l'[j] = x at *
              have d1 : decide (x.1 < 0) = false := decide_eq_false (by omega)
              have d2 : decide (x.2 < 0) = false := decide_eq_false (by omega)
              go_upto_region 26 with fail
              go_cut [137] from 86 to 171 (fun s137 wx => s137 = .bool false ∧ Hid (Below w7.heap.size w7 wx))
              case first =>
                cases j with
                | zero =>
                  go_wp2_with fail
                  go_quiet (fail)
                  go_wp2_with fail
                  go_meet
                  case rel => exact ⟨rfl, by first | exact HJ | exact below_drewN HJ.out _⟩
                | succ i =>
                  have hiy : l'[i]? = some (l'[i]'(by omega)) := List.getElem?_eq_getElem (by omega)
                  obtain ⟨v0, v1, v2⟩ := (AL7.out.under HJ.out).at_ i _ hiy
                  have hrs := pair_at HK.out.rise hiy HX.out (by omega)
                  generalize (l'[i]'(by omega)) = y at *
                  have d3 : decide (x.1 ≤ y.1) = false := decide_eq_false (by omega)
                  have d4 : decide (x.2 ≤ y.2) = false := decide_eq_false (by omega)
                  have d6 : IntKind.i64.wrap ((i : Int) + 1 - 1) = (i : Int) := by rw [IntWalk.i64_in _ (by omega)]; omega
                  have d7 : IntKind.i64.wrap (i : Int) = (i : Int) := IntWalk.i64_in _ (by omega)
                  have d8 : (i : Int) < (l'.length : Int) := by omega
                  have d9 : (0 : Int) < (i : Int) + 1 := by omega
                  have d10 : (0 : Int) ≤ (i : Int) := by omega
                  clear hiy hrs
                  go_wp2_with fail
                  go_quiet (fail)
                  go_wp2_with fail
                  go_meet
                  case rel => exact ⟨rfl, by first | exact HJ | exact below_drewN HJ.out _⟩
              case rest =>
                obtain ⟨rfl, HW⟩ := hcut
                clear HJ y0 y1 y2
                obtain ⟨y0, y1, y2⟩ := (AL7.out.under HW.out).at_ j _ HX.out
                have z0 := cell_at ((HW.out.block ob (by omega)).trans HO7.out) (j := 0) rfl
                have z2 := cell_at ((HW.out.block ob (by omega)).trans HO7.out) (j := 2) rfl
                by_cases hE : E = 0
                · have hE1 : ((E : Int) == 0) = true := by simp; omega
                  by_cases hr2 : r = 2
                  · have b1 : (r == 2) = true := by simp [hr2]
                    have b2 : (r == 3) = false := by simp; omega
                    have b3 : decide (o.tick ≤ x.2) = false := decide_eq_false (by have := HSW.out.cut hE hr2 x HXM.out; omega)
                    go_wp2_with fail
                    go_quiet ((first | (go_at_call 16; exact Calls.quiet_of_same (HPk.out _)) | fail))
                    go_wp2_with fail
                    go_roundg (l'.length - (j + 1))
                    case measure => omega
                    case rel => exact ⟨j + 1, by omega, Nat.le_refl _, by go_num, by first | exact HW | exact below_drewN HW.out _⟩
                  · by_cases hr3 : r = 3
                    · have b1 : (r == 2) = false := by simp; omega
                      have b2 : (r == 3) = true := by simp [hr3]
                      have b3 : decide (x.2 < o.tick) = false := decide_eq_false (by have := HSW.out.del hE hr3 x HXM.out; omega)
                      go_wp2_with fail
                      go_quiet ((first | (go_at_call 16; exact Calls.quiet_of_same (HPk.out _)) | fail))
                      go_wp2_with fail
                      go_roundg (l'.length - (j + 1))
                      case measure => omega
                      case rel => exact ⟨j + 1, by omega, Nat.le_refl _, by go_num, by first | exact HW | exact below_drewN HW.out _⟩
                    · have b1 : (r == 2) = false := by simp [hr2]
                      have b2 : (r == 3) = false := by simp [hr3]
                      go_wp2_with fail
                      go_quiet ((first | (go_at_call 16; exact Calls.quiet_of_same (HPk.out _)) | fail))
                      go_wp2_with fail
                      go_roundg (l'.length - (j + 1))
                      case measure => omega
                      case rel => exact ⟨j + 1, by omega, Nat.le_refl _, by go_num, by first | exact HW | exact below_drewN HW.out _⟩
                · have hE1 : ((E : Int) == 0) = false := by simp; omega
                  go_wp2_with fail
                  go_quiet ((first | (go_at_call 16; exact Calls.quiet_of_same (HPk.out _)) | fail))
                  go_wp2_with fail
                  go_roundg (l'.length - (j + 1))
                  case measure => omega
                  case rel => exact ⟨j + 1, by omega, Nat.le_refl _, by go_num, by first | exact HW | exact below_drewN HW.out _⟩
            · have hjl' : ¬ (j : Int) < (l'.length : Int) := by omega
              have CE := hid (C7.out.with HJ.out (fun _ => False) (fun x hx => hx.elim))
              go_wp2_with fail
              go_roundg (ops.length - (k + 1))
              case measure => omega
              case rel => exact ⟨k + 1, l', by omega, by omega, Nat.le_refl _, by go_num, CE⟩

    · have CI := hid HI.out
      clear HI
      rename (∀ (a : Act) (w : World), Code.wp Try.prog _ _ a w → _) => hK3
      have HK3 := hid hK3
      clear hK3
      by_cases h1 : k < ops.length
      · have h1' : (k : Int) < (ops.length : Int) := by omega
        have h2' : ¬ (k : Int) < 150 := by omega
        go_wp2_with fail
        refine HK3.out _ _ ?_
        exact rises_tail HB1.out CI.out
      · have h1' : ¬ (k : Int) < (ops.length : Int) := by omega
        go_wp2_with fail
        refine HK3.out _ _ ?_
        exact rises_tail HB1.out CI.out

end Go.Proofs.Ytjggdecjnnpjaaa

