/- slices.Concat of two lists. -/
import Derived.Test.YtcffomhcmilcpaaGreatM9a
namespace Go.Proofs.YtcffomhcmilcpaaGreat
open Go.RowKit Go.Maps
set_option linter.unusedSimpArgs false
set_option linter.unusedVariables false
set_option maxRecDepth 100000

theorem IL.vcells {w : World} {ad : Addr} {n c : Nat} {l : List Int} (h : IL w (.slice (some ad) n c) l) : n = l.length ∧ ∀ j u, (vals l)[j]? = some u → w.cell? (ad.add j) = some u := by
  obtain ⟨⟨a, cap, e, _, _, _, h4⟩, _⟩ := id h
  cases e
  refine ⟨rfl, fun j u hu => ?_⟩
  by_cases hne : l = []
  · subst hne; simp [vals] at hu
  · obtain ⟨b, off, e1, _⟩ := h4 hne
    cases e1
    exact h.cells rfl hne j u hu
theorem IL.none_nil {w : World} {n c : Nat} {l : List Int} (h : IL w (.slice none n c) l) : n = 0 ∧ c = 0 ∧ l = [] := by
  obtain ⟨⟨a, cap, e, h1, _, h3, _⟩, _⟩ := h
  cases e
  have := h3 rfl
  subst this
  have : l = [] := List.eq_nil_of_length_eq_zero (by omega)
  subst this
  exact ⟨rfl, rfl, rfl⟩
theorem own_shape {w : World} {B n : Nat} {v : Value} {xs : List Value} (h : w.ownsRow B 3 1 v n xs) : ∃ a n c, v = .slice a n c := by
  rcases h.2 with ⟨e, _⟩ | ⟨g, cp, cur, e, _⟩
  · exact ⟨_, _, _, e⟩
  · exact ⟨_, _, _, e⟩
set_option maxHeartbeats 6400000 in
theorem concat_any {w : World} {ad1 : Addr} {oa2 : Option Addr} {k1 k2 : Nat} {l1 l2 : List Int} {g0 : Nat} (h1 : IL w (.slice (some ad1) l1.length k1) l1) (h2 : IL w (.slice oa2 l2.length k2) l2)
    (hg : w.heap[g0]? = some (.cells #[.slice (some ad1) l1.length k1, .slice oa2 l2.length k2] 23)) (hn1 : 1 ≤ l1.length) (hn2 : l1.length + l2.length ≤ 1000) :
    Calls Tryz.prog 204 #[.slice (some ⟨g0, 0, none⟩) 2 2] w fun e w' => ∃ v', e = .returned v' ∧ IL w' v' (l1 ++ l2) ∧ In (fun b => w.heap.size ≤ b) v' (l1 ++ l2) ∧ Below w.heap.size w w' := by
  obtain ⟨i0, hi0, hz0, hz1, hz2⟩ := info3
  have H1 := hid h1
  have H2 := hid h2
  have c0 := cell_blk hg 0 _ rfl
  have c1 := cell_blk hg 1 _ rfl
  have C0 := hid c0
  have C1 := hid c1
  have GR := hid (grow_any w (l1.length + l2.length) (by omega) hn2)
  obtain ⟨s, hs⟩ : ∃ s, l1.length + l2.length = s := ⟨_, rfl⟩
  have HS : Hid (l1.length + l2.length = s) := hs
  have hsc : (l1.length : Int) + (l2.length : Int) = (s : Int) := by omega
  rw [hs] at GR
  have hs1 : s ≤ 1000 := by omega
  have ha1 : l1.length ≤ 1000 := by omega
  have ha2 : l2.length ≤ 1000 := by omega
  have HSC := hid hsc
  clear h1 h2 hg hs hsc
  have hp1 : ¬ (l1.length : Int) < 0 := by omega
  have hp2 : ¬ (l1.length : Int) + (l2.length : Int) < 0 := by omega
  go_enter Tryz.func204, Tryz.ntmps204
  go_wp2_with fail
  refine wp_loop_rounds 3 ?_
  rw [rounds_succ]
  go_wp2_with fail
  rw [rounds_succ]
  go_wp2_with fail
  rw [rounds_succ]
  go_wp2_with fail
  rw [HSC.out]
  refine GR.out.mono ?_
  rintro e W1 ⟨cap, rfl, ho, hb⟩
  have HO := hid ho
  have HB := hid hb
  clear ho hb c0 c1
  have c0 := kept_cell HB.out C0.out
  have c1 := kept_cell HB.out C1.out
  go_wp2_with fail
  refine wp_loop_rounds 3 ?_
  rw [rounds_succ]
  have V1 := hid (H1.out.under HB.out).vcells.2
  have N1 := hid (vals_one l1)
  have L1 : Hid ((vals l1).length = l1.length * 1) := by show _ = _; rw [vals_length]; omega
  have hbs := HB.out.size
  go_wp2_with (at_builtin; refine wpList_append_own_at _ rfl _ _ 23 rfl w.heap.size 3 i0 _ 1 8 Tryz.underlying23 hi0 hz0 hz1 hz2 rfl (by decide) _ 0 [] rfl HO.out ad1 l1.length k1 (vals l1) rfl L1.out V1.out N1.out (by unfold maxLen; omega) (by omega) (by omega) ?_; intro v2 W2 hown2 hg2 _ hat2)
  have HB2 : Hid (Below w.heap.size w W2) := HB.out.grown hg2 HB.out.size (fun j hj => (World.ownsRow.lt HO.out j hj).1)
  rw [Nat.zero_add, List.nil_append] at hown2
  obtain ⟨b1, b2, b3, rfl⟩ := own_shape hown2
  have HO2 := hid hown2
  clear hown2 hg2 hat2 c0 c1 V1 N1 L1
  have c0 := kept_cell HB2.out C0.out
  have c1 := kept_cell HB2.out C1.out
  have hbs2 := HB2.out.size
  go_wp2_with fail
  rw [rounds_succ]
  cases oa2 with
  | none =>
    obtain ⟨e1, e2, e3⟩ := H2.out.none_nil
    subst e2
    subst e3
    have c1' : W2.cell? ⟨g0, 1, none⟩ = some (.slice none 0 0) := c1
    clear c1
    go_wp2_with (at_builtin; refine wpList_append_own_none rfl _ _ 23 rfl w.heap.size 3 i0 1 Tryz.underlying23 hi0 _ l1.length (vals l1) rfl HO2.out rfl ?_)
    rw [rounds_succ]
    go_wp2_with fail
    go_ret
    rw [List.append_nil]
    exact ⟨_, rfl, IL.of HO2.out H1.out.ok (by omega), in_own HO2.out, HB2.out⟩
  | some ad2 =>
    have V2 := hid (H2.out.under HB2.out).vcells.2
    have N2 := hid (vals_one l2)
    have L2 : Hid ((vals l2).length = l2.length * 1) := by show _ = _; rw [vals_length]; omega
    go_wp2_with (at_builtin; refine wpList_append_own_at _ rfl _ _ 23 rfl w.heap.size 3 i0 _ 1 8 Tryz.underlying23 hi0 hz0 hz1 hz2 rfl (by decide) _ l1.length (vals l1) rfl HO2.out ad2 l2.length k2 (vals l2) rfl L2.out V2.out N2.out (by unfold maxLen; omega) (by omega) (by omega) ?_; intro v3 W3 hown3 hg3 _ hat3)
    have HB3 : Hid (Below w.heap.size w W3) := HB2.out.grown hg3 HB2.out.size (fun j hj => (World.ownsRow.lt HO2.out j hj).1)
    obtain ⟨b4, b5, b6, rfl⟩ := own_shape hown3
    have HO3 : Hid (W3.ownsRow w.heap.size 3 1 (.slice b4 b5 b6) (l1 ++ l2).length (vals (l1 ++ l2))) := by
      have := hown3
      rw [show vals l1 ++ vals l2 = vals (l1 ++ l2) by simp [vals], ← List.length_append] at this
      exact this
    clear hown3 hg3 hat3 c0 c1
    go_wp2_with fail
    rw [rounds_succ]
    go_wp2_with fail
    go_ret
    exact ⟨_, rfl, IL.of HO3.out (fun x hx => by rcases List.mem_append.1 hx with hx | hx; exact H1.out.ok x hx; exact H2.out.ok x hx) (by rw [List.length_append]; omega), in_own HO3.out, HB3.out⟩
end Go.Proofs.YtcffomhcmilcpaaGreat
