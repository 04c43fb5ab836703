/- Begin. -/
import Derived.Test.YtjggdecjnnpjaaaGreatH11
namespace Go.Proofs.YtjggdecjnnpjaaaGreat
open Go.RowKit Go.Maps Go.Sort
set_option maxRecDepth 100000
set_option linter.unusedSimpArgs false
set_option linter.unusedVariables false

set_option maxHeartbeats 6400000 in
theorem cbegin_any {w : World} {B : Nat → Prop} {q a name l size fs} (h : CD w B q a name l size fs) (hk : EOk l) (hn : name.size ≤ maxLen) (e o : Int) :
    Calls Tryz.prog 9 #[.pointer (some ⟨q, 0, none⟩), .int .i64 e, .int .i64 o] w fun en w' => CallPost B w q a name l size fs (beginW l e o) en w' := by
  have H29 : Hid (∀ n : Int, Calls Tryz.prog 30 #[.int .i64 n] (w.alloc (.cells #[.int .i64 o] 3)) fun en w' => en = .returned (.bool (inB n)) ∧ w' = (w.alloc (.cells #[.int .i64 o] 3))) := fun n => isNum_any n _
  have HB := hid ((Below.refl w.heap.size w).alloc (Nat.le_refl _) (.cells #[.int .i64 o] 3))
  have c0 : (w.alloc (.cells #[.int .i64 o] 3)).cell? ⟨w.heap.size, 0, none⟩ = some (.int .i64 o) := cell_at (heap_alloc_new w _) rfl
  have HD := hid h
  have HK := hid hk
  have HIe := hid (inB_iff e)
  have HIo := hid (inB_iff o)
  clear h hk
  cases hI : inB e with
  | false =>
    have HC : Hid (beginW l e o = (1, l)) := by
      have := HIe.out
      rw [hI] at this
      show _ = _
      unfold beginW
      rw [if_pos (fun hh => by simpa using this.2 hh.1)]
    have H := hid (H29.out e)
    rw [hI] at H
    go_enter Tryz.func9, Tryz.ntmps9
    go_wp2_with (go_at_call 30; refine H.out.mono ?_; rintro e w1 ⟨rfl, rfl⟩)
    go_ret
    rw [HC.out]
    exact call_err HD.out HB.out _ 1 (by omega)
  | true =>
  cases hJ : inB o with
  | false =>
    have HC : Hid (beginW l e o = (1, l)) := by
      have := HIo.out
      rw [hJ] at this
      show _ = _
      unfold beginW
      rw [if_pos (fun hh => by simpa using this.2 hh.2)]
    have H := hid (H29.out e)
    have H' := hid (H29.out o)
    rw [hI] at H
    rw [hJ] at H'
    go_enter Tryz.func9, Tryz.ntmps9
    go_wp2_with fail
    refine H.out.mono ?_
    rintro en w1 ⟨rfl, rfl⟩
    go_wp2_with fail
    refine H'.out.mono ?_
    rintro en w1 ⟨rfl, rfl⟩
    go_wp2_with fail
    go_ret
    rw [HC.out]
    exact call_err HD.out HB.out _ 1 (by omega)
  | true =>
  have he := (HIe.out).1 hI
  have hoo := (HIo.out).1 hJ
  have HN := hid (And.intro he hoo)
  clear he hoo
  have H := hid (H29.out e)
  have H' := hid (H29.out o)
  rw [hI] at H
  rw [hJ] at H'
  obtain ⟨oa, cap, k2, kw, HEL, hcap, hcm, hnn, hoa⟩ := HD.out.q HB.out
  have HE := hid HEL
  have hlen := HK.out.few
  have H30 : Hid (∀ W, Below (w.alloc (.cells #[.int .i64 o] 3)).heap.size (w.alloc (.cells #[.int .i64 o] 3)) W → Calls Tryz.prog 31 #[.pointer (some ⟨q, 0, none⟩), .func (.func 32) #[] #[.pointer (some ⟨w.heap.size, 0, none⟩)]] W fun e w' => (∃ r : Nat, e = .returned (.int .i64 (r : Int)) ∧ FoundAt l (fun x => decide (o ≤ x.2)) r) ∧ Below (w.alloc (.cells #[.int .i64 o] 3)).heap.size (w.alloc (.cells #[.int .i64 o] 3)) w') := fun W hb => by
    obtain ⟨U, S, v, h1, h2, h3, h4⟩ := HD.out
    exact (first31 ((h1.under HB.out).under hb) hlen w.heap.size o ((World.cell?_of_block (hb.block _ (by simp))).trans c0)).mono fun e w' ⟨e1, e2⟩ => ⟨e1, hb.trans (e2.mono hb.size)⟩
  have HKp : Hid (∀ W, Below (w.alloc (.cells #[.int .i64 o] 3)).heap.size (w.alloc (.cells #[.int .i64 o] 3)) W → ∀ p u, (w.alloc (.cells #[.int .i64 o] 3)).cell? p = some u → W.cell? p = some u) := fun W hb p u hu => (World.cell?_of_block (hb.block p.block (World.block_lt_of_cell? _ _ hu))).trans hu
  have HCb : Hid (beginW l e o = match l.getLast? with | none => newW l e o | some x => if e = x.1 ∧ x.2 ≤ o then (0, l) else if e ≤ x.1 then (13, l) else newW l e o) := by
    show _ = _
    unfold beginW
    rw [if_neg (fun h => h HN.out)]
    rfl
  have HNOK0 : Hid ((∀ y ∈ l, y.1 < e) → (newW l e o).1 = 0 → EOk (cutW l o ++ [(e, o)])) := fun ht h0 => by
    have := newW_ok HK.out HN.out.1 HN.out.2 ht
    unfold newW at this h0
    by_cases h2 : 200 ≤ (cutW l o).length
    · rw [if_pos h2] at h0; cases h0
    · rw [if_neg h2] at this; exact this
  clear HEL
  cases hlast : l.getLast? with
  | none =>
    have hl0 : l = [] := List.getLast?_eq_none_iff.1 hlast
    have hl1 : l.length = 0 := by rw [hl0]; rfl
    have HC : Hid (beginW l e o = newW l e o) := by show _ = _; rw [HCb.out, hlast]
    have HNOK : Hid (EOk (cutW l o ++ [(e, o)])) := HNOK0.out (fun y hy => by rw [hl0] at hy; simp at hy) (by
      unfold newW
      rw [if_neg (by subst hl0; simp [cutW])])
    have hl2 : ((l.length : Nat) : Int) = 0 := by omega
    clear HCb HNOK0 hl0 hlast hoa
    go_enter Tryz.func9, Tryz.ntmps9
    go_wp2_with fail
    refine H.out.mono ?_
    rintro en w1 ⟨rfl, rfl⟩
    go_wp2_with fail
    refine H'.out.mono ?_
    rintro en w1 ⟨rfl, rfl⟩
    generalize w.alloc (.cells #[.int .i64 o] 3) = W1 at *
    go_wp2_with fail
    refine (H30.out _ ?_).mono ?_
    · first | exact Below.refl _ _ | exact (Below.refl _ _).drew | exact below_drewN (Below.refl _ _) _
    rintro en w2 ⟨⟨r, rfl, hr⟩, hb2⟩
    have hrl := hr.le
    have HR := hid hr
    have HCW := hid (found_cut HK.out hr)
    clear hr
    have hrI : (r : Int) ≤ (l.length : Int) := by omega
    by_cases h200 : 200 ≤ r
    · have h200' : (200 : Int) ≤ (r : Int) := by omega
      go_wp2_with fail
      go_ret
      have e1 : newW l e o = (3, l) := by
        unfold newW
        rw [← HCW.out, List.length_take, Nat.min_eq_left hrl, if_pos h200]
      rw [HC.out, e1]
      exact call_err HD.out (HB.out.trans (hb2.mono HB.out.size)) _ 3 (by omega)
    · have h200' : ¬ (200 : Int) ≤ (r : Int) := by omega
      have p2 := HKp.out _ hb2 _ _ k2
      have p0 := HKp.out _ hb2 _ _ c0
      have hrc : (r : Int) ≤ (cap : Int) := by omega
      have hr0 : (0 : Int) ≤ (r : Int) := by omega
      have hrN : ((r : Int)).toNat = r := by omega
      have e1 : newW l e o = (0, cutW l o ++ [(e, o)]) := by
        unfold newW
        rw [← HCW.out, List.length_take, Nat.min_eq_left hrl, if_neg h200]
      have HN1 := hid e1
      clear e1
      have s2a : (w2.alloc (.cells #[.int .i64 e, .int .i64 o] 68)).cell? ⟨q, 2, none⟩ = some (.slice oa l.length cap) := (World.cell?_alloc_some w2 _ _ (by rw [p2]; rfl)).trans p2
      have s2b : (w2.alloc (.cells #[.int .i64 e, .int .i64 o] 68)).cell? ⟨w.heap.size, 0, none⟩ = some (.int .i64 o) := (World.cell?_alloc_some w2 _ _ (by rw [p0]; rfl)).trans p0
      have hbW : Below w.heap.size w w2 := HB.out.trans (hb2.mono HB.out.size)
      have HBA : Hid (Below w.heap.size w (w2.alloc (.cells #[.int .i64 e, .int .i64 o] 68)).drew) := (hbW.alloc hbW.size _).drew
      have HOLD : Hid (∀ b, oa = some b → ∀ j u, (flatN (l.take r))[j]? = some u → (w2.alloc (.cells #[.int .i64 e, .int .i64 o] 68)).drew.cell? (b.add j) = some u) := fun b hb j u hu => by
        cases hb
        have hE2 := ((HE.out.under hb2).under (((Below.refl _ w2).alloc (Nat.le_refl _) (.cells #[.int .i64 e, .int .i64 o] 68)).drew))
        obtain ⟨oa', cap', ee, _, _, _, h4⟩ := id hE2
        cases ee
        obtain ⟨g', eg, _⟩ := h4 _ rfl
        cases eg
        have := (hE2.take r hrl).cells 0 j u (by simpa using hu)
        simpa using this
      have HNWS : Hid (∀ j u, [Value.int .i64 e, .int .i64 o][j]? = some u → (w2.alloc (.cells #[.int .i64 e, .int .i64 o] 68)).drew.cell? ((⟨w2.heap.size, 0, none⟩ : Addr).add j) = some u) := fun j u hu => by
        rw [add_lit0]
        exact cell_at (heap_alloc_new w2 (.cells #[.int .i64 e, .int .i64 o] 68)) (by simpa using hu)
      have HNO : Hid (oa = none → r = 0 ∧ r = 0) := fun h => by have := hnn h; omega
      have HLO : Hid ((flatN (l.take r)).length = r * 2) := by show _ = _; rw [flatN_length, List.length_take, Nat.min_eq_left hrl]
      have H32 : Hid (∀ v5 w5, w5.ownsRow (w2.alloc (.cells #[.int .i64 e, .int .i64 o] 68)).drew.heap.size 68 2 v5 (r + 1) (flatN (l.take r) ++ [.int .i64 e, .int .i64 o]) → (w2.alloc (.cells #[.int .i64 e, .int .i64 o] 68)).drew.grownBy w5 none → Calls Tryz.prog 33 #[.pointer (some ⟨q, 0, none⟩), v5] w5 fun e' w' => CallPost B w q a name l size fs (0, cutW l o ++ [(e, o)]) e' w') := fun v5 w5 hown hg => by
        have hbs := HBA.out.size
        have hb5 : Below w.heap.size w w5 := HBA.out.grown hg hbs (fun k hk => by cases hk)
        refine HD.out.keep HK.out hn hb5 HNOK.out (fun v hv _ => ⟨?_, fun k hk => .inr ?_⟩)
        · rw [← HCW.out]
          refine EL.of (B := (w2.alloc (.cells #[.int .i64 e, .int .i64 o] 68)).drew.heap.size) (l := l.take r ++ [(e, o)]) (n := r + 1) ?_ (by rw [List.length_append, List.length_take, Nat.min_eq_left hrl]; rfl)
          rw [flatN_append]
          exact hown
        · have := (World.ownsRow.lt hown k hk).1; omega
      obtain ⟨i0, hi0, hz0, hz1', hz2⟩ := info74
      have HONE : Hid (∀ u ∈ [Value.int .i64 e, .int .i64 o], u.oneCell' = true) := fun u hu => by
        simp at hu
        rcases hu with rfl | rfl <;> rfl
      go_wp2_with fail
      go_region_law (first
          | (refine step_append_grows (by rfl) (.tmp 59) (.tmp 63) 64 (by rfl) 68 i0 _ 2 16 Tryz.underlying64 hi0 hz0 hz1' hz2 rfl (by decide) oa r r (flatN (l.take r)) (by simp [Act.eval, Act.put]) HNO.out HLO.out (by exact HOLD.out) ⟨w2.heap.size, 0, none⟩ 1 1 [.int .i64 e, .int .i64 o] (by simp [Act.eval, Act.put]) rfl (by exact HNWS.out) HONE.out (by omega) (by unfold maxLen; omega) (by omega) ?_; intro v5 w5 hown5 hg5; have Ho5 := hid hown5; have Hg5 := hid hg5; clear hown5 hg5)
          | (refine step_call32 (by rfl) 52 64 _ (by rfl) (.pointer (some ⟨q, 0, none⟩)) v5 (by simp [Act.eval, Act.put]) (by simp [Act.eval, Act.put]) _ (H32.out _ _ Ho5.out Hg5.out) ?_; rintro en w6 ⟨rfl, hcda⟩; have HP := hid hcda; clear hcda; refine ⟨_, rfl, ?_⟩)
          | fail)
      all_goals
        go_wp2_with fail
        go_ret
        rw [HC.out, HN1.out]
        exact ⟨rfl, HP.out⟩

  | some x =>
    have hpos : 0 < l.length := by cases l with | nil => simp at hlast | cons y r => simp
    have hxl : l[l.length - 1]? = some x := by rw [← hlast, List.getLast?_eq_getElem?]
    obtain ⟨g, rfl⟩ := hoa hpos
    obtain ⟨r0, r1⟩ := HE.out.at_ _ _ hxl
    have HT := hid (getLast_top HK.out.rise hlast)
    rw [hlast] at HCb
    simp only at HCb
    have hpI : (0 : Int) < (l.length : Int) := by omega
    obtain ⟨n, hn1⟩ : ∃ n, l.length = n + 1 := ⟨l.length - 1, by omega⟩
    have hn2 : l.length - 1 = n := by omega
    rw [hn2] at r0 r1
    clear hoa hxl hlast
    go_enter Tryz.func9, Tryz.ntmps9
    go_wp2_with fail
    refine H.out.mono ?_
    rintro en w1 ⟨rfl, rfl⟩
    go_wp2_with fail
    refine H'.out.mono ?_
    rintro en w1 ⟨rfl, rfl⟩
    generalize w.alloc (.cells #[.int .i64 o] 3) = W1 at *
    have c0a : (W1.alloc (.cells #[.int .i64 x.1, .int .i64 x.2] 68)).cell? ⟨w.heap.size, 0, none⟩ = some (.int .i64 o) := (World.cell?_alloc_some W1 _ _ (by rw [c0]; rfl)).trans c0
    have hb1a := (Below.refl W1.heap.size W1).alloc (Nat.le_refl _) (.cells #[.int .i64 x.1, .int .i64 x.2] 68)
    have HB1a := hid hb1a
    clear hb1a
    by_cases h1 : e = x.1
    · by_cases h2 : x.2 ≤ o
      · rw [if_pos ⟨h1, h2⟩] at HCb
        clear H30
        go_wp2_with fail
        go_ret
        rw [HCb.out]
        exact call_none HD.out (HB.out.trans (HB1a.out.mono HB.out.size))
      · rw [if_neg (fun hh => h2 hh.2), if_pos (by omega)] at HCb
        have h3 : e ≤ x.1 := by omega
        clear H30
        go_wp2_with fail
        go_ret
        rw [HCb.out]
        exact call_err HD.out (HB.out.trans (HB1a.out.mono HB.out.size)) _ 13 (by omega)
    · by_cases h3 : e ≤ x.1
      · rw [if_neg (fun hh => h1 hh.1), if_pos h3] at HCb
        clear H30
        go_wp2_with fail
        go_ret
        rw [HCb.out]
        exact call_err HD.out (HB.out.trans (HB1a.out.mono HB.out.size)) _ 13 (by omega)
      · rw [if_neg (fun hh => h1 hh.1), if_neg h3] at HCb
        have HC := hid HCb.out
        have HNOK : Hid ((newW l e o).1 = 0 → EOk (cutW l o ++ [(e, o)])) := HNOK0.out (fun y hy => by have := HT.out y hy; omega)
        clear HCb HNOK0 HT
        go_wp2_with fail
        refine (H30.out _ ?_).mono ?_
        · first | exact HB1a.out | exact HB1a.out.drew | exact below_drewN HB1a.out _
        rintro en w2 ⟨⟨r, rfl, hr⟩, hb2⟩
        have hrl := hr.le
        have HR := hid hr
        have HCW := hid (found_cut HK.out hr)
        clear hr
        have hrI : (r : Int) ≤ (l.length : Int) := by omega
        by_cases h200 : 200 ≤ r
        · have h200' : (200 : Int) ≤ (r : Int) := by omega
          go_wp2_with fail
          go_ret
          have e1 : newW l e o = (3, l) := by
            unfold newW
            rw [← HCW.out, List.length_take, Nat.min_eq_left hrl, if_pos h200]
          rw [HC.out, e1]
          exact call_err HD.out (HB.out.trans (hb2.mono HB.out.size)) _ 3 (by omega)
        · have h200' : ¬ (200 : Int) ≤ (r : Int) := by omega
          have p2 := HKp.out _ hb2 _ _ k2
          have p0 := HKp.out _ hb2 _ _ c0
          have hrc : (r : Int) ≤ (cap : Int) := by omega
          have hr0 : (0 : Int) ≤ (r : Int) := by omega
          have hrN : ((r : Int)).toNat = r := by omega
          have e1 : newW l e o = (0, cutW l o ++ [(e, o)]) := by
            unfold newW
            rw [← HCW.out, List.length_take, Nat.min_eq_left hrl, if_neg h200]
          have HN1 := hid e1
          clear e1
          have s2a : (w2.alloc (.cells #[.int .i64 e, .int .i64 o] 68)).cell? ⟨q, 2, none⟩ = some (.slice (some ⟨g, 0, none⟩) l.length cap) := (World.cell?_alloc_some w2 _ _ (by rw [p2]; rfl)).trans p2
          have s2b : (w2.alloc (.cells #[.int .i64 e, .int .i64 o] 68)).cell? ⟨w.heap.size, 0, none⟩ = some (.int .i64 o) := (World.cell?_alloc_some w2 _ _ (by rw [p0]; rfl)).trans p0
          have hbW : Below w.heap.size w w2 := HB.out.trans (hb2.mono HB.out.size)
          have HBA : Hid (Below w.heap.size w (w2.alloc (.cells #[.int .i64 e, .int .i64 o] 68)).drew) := (hbW.alloc hbW.size _).drew
          have HOLD : Hid (∀ b, (some ⟨g, 0, none⟩ : Option Addr) = some b → ∀ j u, (flatN (l.take r))[j]? = some u → (w2.alloc (.cells #[.int .i64 e, .int .i64 o] 68)).drew.cell? (b.add j) = some u) := fun b hb j u hu => by
            cases hb
            have hE2 := ((HE.out.under hb2).under (((Below.refl _ w2).alloc (Nat.le_refl _) (.cells #[.int .i64 e, .int .i64 o] 68)).drew))
            obtain ⟨oa', cap', ee, _, _, _, h4⟩ := id hE2
            cases ee
            obtain ⟨g', eg, _⟩ := h4 _ rfl
            cases eg
            have := (hE2.take r hrl).cells 0 j u (by simpa using hu)
            simpa using this
          have HNWS : Hid (∀ j u, [Value.int .i64 e, .int .i64 o][j]? = some u → (w2.alloc (.cells #[.int .i64 e, .int .i64 o] 68)).drew.cell? ((⟨w2.heap.size, 0, none⟩ : Addr).add j) = some u) := fun j u hu => by
            rw [add_lit0]
            exact cell_at (heap_alloc_new w2 (.cells #[.int .i64 e, .int .i64 o] 68)) (by simpa using hu)
          have HNO : Hid ((some ⟨g, 0, none⟩ : Option Addr) = none → r = 0 ∧ r = 0) := fun h => by have := hnn h; omega
          have HLO : Hid ((flatN (l.take r)).length = r * 2) := by show _ = _; rw [flatN_length, List.length_take, Nat.min_eq_left hrl]
          have H32 : Hid (∀ v5 w5, w5.ownsRow (w2.alloc (.cells #[.int .i64 e, .int .i64 o] 68)).drew.heap.size 68 2 v5 (r + 1) (flatN (l.take r) ++ [.int .i64 e, .int .i64 o]) → (w2.alloc (.cells #[.int .i64 e, .int .i64 o] 68)).drew.grownBy w5 none → Calls Tryz.prog 33 #[.pointer (some ⟨q, 0, none⟩), v5] w5 fun e' w' => CallPost B w q a name l size fs (0, cutW l o ++ [(e, o)]) e' w') := fun v5 w5 hown hg => by
            have hbs := HBA.out.size
            have hb5 : Below w.heap.size w w5 := HBA.out.grown hg hbs (fun k hk => by cases hk)
            refine HD.out.keep HK.out hn hb5 (HNOK.out (by rw [HN1.out])) (fun v hv _ => ⟨?_, fun k hk => .inr ?_⟩)
            · rw [← HCW.out]
              refine EL.of (B := (w2.alloc (.cells #[.int .i64 e, .int .i64 o] 68)).drew.heap.size) (l := l.take r ++ [(e, o)]) (n := r + 1) ?_ (by rw [List.length_append, List.length_take, Nat.min_eq_left hrl]; rfl)
              rw [flatN_append]
              exact hown
            · have := (World.ownsRow.lt hown k hk).1; omega
          obtain ⟨i0, hi0, hz0, hz1', hz2⟩ := info74
          have HONE : Hid (∀ u ∈ [Value.int .i64 e, .int .i64 o], u.oneCell' = true) := fun u hu => by
            simp at hu
            rcases hu with rfl | rfl <;> rfl
          go_wp2_with fail
          go_region_law (first
              | (refine step_append_grows (by rfl) (.tmp 59) (.tmp 63) 64 (by rfl) 68 i0 _ 2 16 Tryz.underlying64 hi0 hz0 hz1' hz2 rfl (by decide) (some ⟨g, 0, none⟩) r r (flatN (l.take r)) (by simp [Act.eval, Act.put]) HNO.out HLO.out (by exact HOLD.out) ⟨w2.heap.size, 0, none⟩ 1 1 [.int .i64 e, .int .i64 o] (by simp [Act.eval, Act.put]) rfl (by exact HNWS.out) HONE.out (by omega) (by unfold maxLen; omega) (by omega) ?_; intro v5 w5 hown5 hg5; have Ho5 := hid hown5; have Hg5 := hid hg5; clear hown5 hg5)
              | (refine step_call32 (by rfl) 52 64 _ (by rfl) (.pointer (some ⟨q, 0, none⟩)) v5 (by simp [Act.eval, Act.put]) (by simp [Act.eval, Act.put]) _ (H32.out _ _ Ho5.out Hg5.out) ?_; rintro en w6 ⟨rfl, hcda⟩; have HP := hid hcda; clear hcda; refine ⟨_, rfl, ?_⟩)
              | fail)
          all_goals
            go_wp2_with fail
            go_ret
            rw [HC.out, HN1.out]
            exact ⟨rfl, HP.out⟩

end Go.Proofs.YtjggdecjnnpjaaaGreat

