/- What both Loads make of any bytes: the law's walk. -/
import Derived.Test.YtkdbclnnmpnfgaaHL7
import Derived.Test.YtkdbclnnmpnfgaaHD25
import Derived.Test.YtkdbclnnmpnfgaaH13
import Derived.Test.YtkdbclnnmpnfgaaHR11
import Derived.BigQuiet
import Derived.Deep.QuietTactic
import Derived.Deep.RegionHeld3
namespace Go.Proofs.Ytkdbclnnmpnfgaa
open Go.RowKit Go.Maps
set_option maxRecDepth 100000
set_option linter.unusedSimpArgs false
set_option linter.unusedVariables false

theorem blk_under {W W' : World} {q : Nat} {O : Obj} (h : W.heap[q]? = some O) (hb : Below W.heap.size W W') : W'.heap[q]? = some O := (hb.block q (Array.getElem?_eq_some_iff.1 h).1).trans h
set_option maxHeartbeats 12800000 in
theorem loads_walk (s : ByteArray) (w : World) (hs : s.size ≤ maxLen) : Calls Try.prog 4 #[.string s] w fun e w' => e = .returned (.bool true) ∧ Below w.heap.size w w' := by
  obtain ⟨b, rfl⟩ : ∃ b, s = strOf b := ⟨s.data.toList, by cases s; simp [strOf]⟩
  have hsz := strOf_size b
  have HC : Hid (∀ W, Calls Try.prog 24 #[.string (strOf b)] W fun e w' => e = .returned (.int .i64 (crcL b : Nat)) ∧ W = w') := fun W => by
    have := rcrc_any (strOf b) W hs
    rw [strOf_data] at this
    exact this
  have HF : Hid (∀ W, Calls Try.prog 23 #[.int .i64 (crcL b : Nat)] W fun e w' => e = .returned (.string (strOf (fourL (crcL b)))) ∧ Below W.heap.size W w') := fun W => rfour_any _ W (crcL_lt _)
  have happ : strOf (fourL (crcL b)) ++ strOf b = strOf (fourL (crcL b) ++ b) := by simp [strOf, ByteArray.ext_iff]
  have hf4 : (strOf (fourL (crcL b))).size = 4 := by rw [strOf_size]; rfl
  have hl4 : (fourL (crcL b) ++ b).length = b.length + 4 := by rw [List.length_append]; show 4 + _ = _; omega
  generalize fourL (crcL b) ++ b = b2 at *
  generalize fourL (crcL b) = F4 at *
  generalize crcL b = C at *
  go_enter Try.func4, Try.ntmps4
  go_wp2_with fail
  refine (shown_any _).mono ?_
  rintro e W1 ⟨rfl, hb1⟩
  by_cases h2 : 20000 < b.length
  · have h2' : (20000 : Int) < ((strOf b).size : Int) := by omega
    have h2'' : (20000 : Int) < (b.length : Int) := by omega
    go_wp2_with fail
    go_ret
    exact ⟨rfl, hb1⟩
  have h2' : ¬ (20000 : Int) < ((strOf b).size : Int) := by omega
  have h2'' : ¬ (20000 : Int) < (b.length : Int) := by omega
  go_wp2_with fail
  refine (HC.out _).mono ?_
  rintro e W2 ⟨rfl, rfl⟩
  go_wp2_with fail
  refine (HF.out _).mono ?_
  rintro e W3 ⟨rfl, hb3⟩
  have HB3 := hid (hb1.trans (hb3.mono hb1.size))
  clear hb1 hb3
  have hof : ¬ 9223372036854775807 < (strOf F4).size + (strOf b).size := by omega
  have hof2 : ¬ (9223372036854775807 : Int) < ((strOf F4).size : Int) + ((strOf b).size : Int) := by omega
  have HL1 : Hid (b.length ≤ 20000) := by show _ ≤ _; omega
  have HL2 : Hid (b2.length ≤ 20004) := by show _ ≤ _; omega
  go_upto_region 5 with fail
  have hA : Below W3.heap.size W3 (W3.alloc (.cells #[.string (strOf b), .string (strOf b2)] 9)) := (Below.refl _ _).alloc (Nat.le_refl _) _
  have HB4 := hid (HB3.out.trans (hA.mono HB3.out.size))
  have HG4 : Hid ((W3.alloc (.cells #[.string (strOf b), .string (strOf b2)] 9)).heap[W3.heap.size]? = some (.cells #[.string (strOf b), .string (strOf b2)] 9)) := heap_alloc_new _ _
  clear hA HB3 HC HF h2 h2' h2'' hof hof2 happ hf4 hl4
  generalize W3.alloc (.cells #[.string (strOf b), .string (strOf b2)] 9) = W4 at *
  generalize W3.heap.size = g at *
  go_wp2_with fail
  go_loopg [5] 2 (fun kx s5 wr => ∃ k : Nat, k ≤ 2 ∧ 2 - k ≤ kx ∧ s5 = .int .i64 (k : Int) ∧ Hid (wr.heap[g]? = some (.cells #[.string (strOf b), .string (strOf b2)] 9)) ∧ Hid (Below w.heap.size w wr))
  case atStart => exact ⟨0, by omega, by omega, rfl, HG4, HB4⟩
  case round =>
    clear HG4 HB4
    obtain ⟨k, hk, hkx, rfl, HG, HB⟩ := hrel
    by_cases hlt : k < 2
    case neg =>
      have hlt' : ¬ (k : Int) < 2 := by omega
      go_wp2_with fail
      go_ret
      exact ⟨rfl, HB.out⟩
    have hlt' : (k : Int) < 2 := by omega
    have hk0 : (0 : Int) ≤ (k : Int) := by omega
    obtain ⟨bb, HBB, hbl⟩ : ∃ bb, Hid (∀ W, Below wr.heap.size wr W → W.cell? ⟨g, k, none⟩ = some (.string (strOf bb))) ∧ bb.length ≤ 20004 := by
      have hcase : k = 0 ∨ k = 1 := by omega
      rcases hcase with rfl | rfl
      · exact ⟨b, fun W hb => cell_blk (blk_under HG.out hb) 0 _ rfl, Nat.le_trans HL1.out (by omega)⟩
      · exact ⟨b2, fun W hb => cell_blk (blk_under HG.out hb) 1 _ rfl, HL2.out⟩
    have kc := HBB.out wr (Below.refl _ _)
    have HLD : Hid (∀ W, Calls Try.prog 20 #[.string (strOf bb)] W fun e w' => LoadPost W w' (loadL bb) e) := fun W => load_any bb W (by omega)
    have HRD : Hid (∀ W, Calls Try.prog 25 #[.string (strOf bb)] W fun e w' => DLoad W w' (loadL bb) e) := fun W => rload_any bb W (by omega)
    have HINV : Hid (∀ T, loadL bb = (T, 0) → bb = keepB T ∧ TOk T) := fun T h => load_inv bb T (by omega) h
    generalize loadL bb = R at *
    obtain ⟨T, cd⟩ := R
    go_wp2_with fail
    refine (HLD.out _).mono ?_
    rintro e W5 ⟨hb5, hl5⟩
    have HB5 := hid hb5
    clear kc hb5
    have kc := HBB.out W5 HB5.out
    by_cases hc : cd = 0
    · obtain ⟨_, q, S, rfl, hTab, _⟩ := hl5.resolve_right (fun h => h.1 hc)
      have HT5 := hid hTab
      obtain ⟨hkb, hok⟩ := HINV.out T (by rw [hc])
      have HKB := hid hkb
      have HOK := hid hok
      clear hTab hl5 hkb hok
      go_wp2_with fail
      refine (HRD.out _).mono ?_
      rintro e W6 ⟨hb6, hl6⟩
      obtain ⟨_, r, v, rfl, hR⟩ := hl6.resolve_right (fun h => h.1 hc)
      have HB6 := hid (HB5.out.trans (hb6.mono HB5.out.size))
      have HT6 := hid (HT5.out.under hb6)
      have HR6 := hid hR
      clear hR hl6 hb6 HT5 kc hc
      have kc := HBB.out W6 HB6.out
      have HK1 : Hid (∀ V, Below W6.heap.size W6 V → Calls Try.prog 21 #[.pointer (some ⟨q, 0, none⟩)] V fun e w' => e = .returned (.string (strOf bb)) ∧ Below W6.heap.size W6 w') := fun V hb => (keep_any (HT6.out.under hb)).mono fun e w' ⟨e1, e2⟩ => ⟨by rw [e1, ← HKB.out], hb.trans (e2.mono hb.size)⟩
      have HK2 : Hid (∀ V, Below W6.heap.size W6 V → Calls Try.prog 22 #[.pointer (some ⟨r, 0, none⟩)] V fun e w' => e = .returned (.string (strOf bb)) ∧ Below W6.heap.size W6 w') := fun V hb => (rkeep_any (HR6.out.under hb) (flat_mok HOK.out)).mono fun e w' ⟨e1, e2⟩ => ⟨by rw [e1, flat_keep HOK.out, ← HKB.out], hb.trans (e2.mono hb.size)⟩
      have HCC : Hid (∀ V, Below W6.heap.size W6 V → V.cell? ⟨g, k, none⟩ = some (.string (strOf bb))) := fun V hb => HBB.out V (HB6.out.trans (hb.mono HB6.out.size))
      clear HKB HOK HT6 HR6 HBB HLD HRD HINV
      go_upto_region 12 with fail
      go_region_held3 (fun w' => w'.cell? ⟨g, k, none⟩ = some (.string (strOf bb))) (go_keep) (first
        | (go_at_call 21; refine (HK1.out _ (by first | exact Below.refl _ _ | exact (Below.refl _ _).drew | exact HB9.out | exact HB9.out.drew)).mono ?_; rintro e V9 ⟨rfl, hb⟩; have HB9 := hid hb; have kd := HCC.out _ hb; clear hb)
        | (go_at_call 22; refine (HK2.out _ (by first | exact Below.refl _ _ | exact (Below.refl _ _).drew | exact HB9.out | exact HB9.out.drew)).mono ?_; rintro e V9 ⟨rfl, hb⟩; have HB9 := hid hb; have kd := HCC.out _ hb; clear hb)
        | fail)
      all_goals
        go_wp2_with fail
        go_roundg (2 - (k + 1))
        case measure => omega
        case rel => exact ⟨k + 1, by omega, Nat.le_refl _, by go_num, blk_under HG.out (HB6.out.trans (HB9.out.mono HB6.out.size)), HB.out.trans ((HB6.out.trans (HB9.out.mono HB6.out.size)).mono HB.out.size)⟩
    · obtain ⟨_, rfl⟩ := hl5.resolve_left (fun h => hc h.1)
      clear hl5
      go_wp2_with fail
      refine (HRD.out _).mono ?_
      rintro e W6 ⟨hb6, hl6⟩
      obtain ⟨_, rfl⟩ := hl6.resolve_left (fun h => hc h.1)
      have HB6 := hid (HB5.out.trans (hb6.mono HB5.out.size))
      clear hl6 hb6
      have c1 : (cd != 0) = true := by simp [hc]
      have c2 : (cd == 0) = false := by simp [hc]
      have c3 : (cd != cd) = false := by simp
      clear hc kc
      go_upto_region 12 with fail
      go_quiet (fail)
      go_wp2_with fail
      go_roundg (2 - (k + 1))
      case measure => omega
      case rel => exact ⟨k + 1, by omega, Nat.le_refl _, by go_num, blk_under HG.out (below_drewN HB6.out _), HB.out.trans ((below_drewN HB6.out _).mono HB.out.size)⟩
end Go.Proofs.Ytkdbclnnmpnfgaa

