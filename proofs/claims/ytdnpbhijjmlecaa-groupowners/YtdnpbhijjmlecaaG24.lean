/- Join. -/
import Derived.Test.YtdnpbhijjmlecaaG23
import Derived.Test.YtdnpbhijjmlecaaG9
import Derived.Deep.CutRange
import Derived.Deep.CutBlock
namespace Go.Proofs.Ytdnpbhijjmlecaa
open Go.RowKit Go.Maps
set_option maxRecDepth 100000
set_option linter.unusedSimpArgs false
set_option linter.unusedVariables false

theorem joinE_zero {gs : GL} {m : Rc} (h : joinE gs m = 0) : nameB m.name = true ∧ 0 ≤ m.a ∧ riseB 0 m.list = true ∧ (0 < m.a → (getG gs m.key).isSome = true ∧ hasM (foundG gs m.key) m.a = true) ∧ ((getG gs m.key).isSome = true ∨ gs.length < 8) ∧ (m.a = 0 → (foundG gs m.key).mem.length < 16) ∧ (foundG gs m.key).ever < 1000000 := by
  unfold joinE at h
  split at h
  · omega
  · rename_i h1
    split at h
    · omega
    · rename_i h2
      split at h
      · omega
      · rename_i h3
        split at h
        · omega
        · rename_i h4
          have n1 : nameB m.name = true := by cases hb : nameB m.name with | true => rfl | false => exact absurd (.inl hb) h1
          have n3 : riseB 0 m.list = true := by cases hb : riseB 0 m.list with | true => rfl | false => exact absurd (.inr (.inr hb)) h1
          have n2 : 0 ≤ m.a := by
            by_cases h : m.a < 0
            · exact absurd (.inr (.inl h)) h1
            · omega
          refine ⟨n1, n2, n3, fun ha => ⟨?_, ?_⟩, ?_, fun ha => ?_, ?_⟩
          · cases hb : (getG gs m.key).isSome with | true => rfl | false => exact absurd ⟨ha, hb⟩ h2
          · cases hb : hasM (foundG gs m.key) m.a with | true => rfl | false => exact absurd ⟨ha, hb⟩ h3
          · cases hb : (getG gs m.key).isSome with
            | true => exact .inl rfl
            | false =>
              rcases Nat.lt_or_ge gs.length 8 with h | h
              · exact .inr h
              · exact absurd (.inl ⟨hb, h⟩) h4
          · rcases Nat.lt_or_ge (foundG gs m.key).mem.length 16 with h | h
            · exact h
            · exact absurd (.inr (.inl ⟨ha, h⟩)) h4
          · by_cases h : (foundG gs m.key).ever < 1000000
            · exact h
            · exact absurd (.inr (.inr (by omega))) h4
theorem join_has {x : Gr} {m : Rc} {N : Nat} (hok : GrOk N x) (h : 0 < m.a → hasM x m.a = true) (h0 : 0 ≤ m.a) : hasM (joinG x m) (joinD x m) = true := by
  unfold joinG joinX joinD hasM
  by_cases ha : m.a = 0
  · simp only [ha, if_true]
    have := place_snoc x.mem ⟨x.ever + 1, -1⟩ (fun y hy => by have := hok.mems y hy; simp; omega)
    simp only at this
    show (placeN (admitG x).mem (x.ever + 1)).isSome = true
    unfold admitG
    rw [this]
    rfl
  · simp only [ha, if_false]
    exact h (by omega)
set_option maxHeartbeats 6400000 in
theorem join_any {w : World} {Z : Nat → Prop} {q : Nat} {S : Gs} {N : Nat} (h : AllM w Z q S) (hok : GsOk N S) (hN : N ≤ 1000000) (m : Rc) (hrc : RcOk m) (hnm : m.name.size ≤ maxLen) (la : Option Addr) (lc : Nat) (hl : IL w (.slice la m.list.length lc) m.list) (hlz : In (fun k => ¬ Z k) (.slice la m.list.length lc) m.list) :
    Calls Try.prog 38 #[.pointer (some ⟨q, 0, none⟩), recV m (.slice la m.list.length lc)] w fun e w' => OutA Z w w' q (joinI S m).1 (joinI S m).2 e := by
  have hT := tb_new Z w (recA m (.slice la m.list.length lc)) zTd
  have HT := hid hT
  have hbW : Below w.heap.size w ((w.alloc (.cells (recA m (.slice la m.list.length lc)) 32)).alloc (.cells zTd 36)) := (tb_new (fun _ => False) w (recA m (.slice la m.list.length lc)) zTd).k.base
  have HBW := hid hbW
  have HH := hid h
  have HJE := hid (joinE_any (h.under hbW) hok m hrc hnm la lc (hl.under hbW))
  obtain ⟨b, es, hA, hZq, hZb, hZe, hZl⟩ := h
  have HA := hid (hA.under hbW)
  have HL := hid (hl.under hbW)
  have HZE := hid hZe
  have HZL := hid hZl
  have HZQ := hid hZq
  have HZB := hid hZb
  have hq := hZl q hZq
  have hbl := hZl b hZb
  have HLZ := hid hlz
  have HLO := hid hl.old
  have HOK := hid hok
  have hes : es.length ≤ 8 := by have := hok.few; rw [hA.abs, List.length_map] at this; exact this
  have HG0 := hid (foundOk hok m.key)
  have HJI : Hid (joinI S m = if joinE S.gs m ≠ 0 then (S, errT (joinE S.gs m)) else ({ S with gs := putG S.gs m.key (joinG (foundG S.gs m.key) m) }, joinT (foundG S.gs m.key) m)) := rfl
  have HJZ := hid (joinE_zero (gs := S.gs) (m := m))
  have a0 := cell_blk hT.x 0 _ rfl
  have a1 := cell_blk hT.x 1 _ rfl
  have a2 := cell_blk hT.x 2 _ rfl
  have a3 := cell_blk hT.x 3 _ rfl
  have a4 := cell_blk hT.x 4 _ rfl
  have a5 := cell_blk hT.x 5 _ rfl
  have a6 := cell_blk hT.x 6 _ rfl
  have a7 := cell_blk hT.x 7 _ rfl
  unfold recV recA zTd at *
  rw [HJI.out]
  clear hT hbW hA hZe hZl hl hlz HJI hok hrc hZq hZb
  generalize hE0 : joinE S.gs m = E0 at *
  clear hE0
  by_cases h0 : E0 = 0
  · subst h0
    rw [if_neg (by simp)]
    obtain ⟨j1, j2, j3, j4, j5, j6, j7⟩ := HJZ.out rfl
    have HJ1 := hid j1
    have HJ3 := hid j3
    have HJ4 := hid j4
    have HJ6 := hid j6
    have HJ7 := hid j7
    have hn32 : m.name.size ≤ 32 := by
      unfold nameB at j1
      simp only [Bool.and_eq_true, decide_eq_true_eq] at j1
      exact j1.1.2
    have HFM : Hid (∀ V, Below ((w.alloc (.cells (recA m (.slice la m.list.length lc)) 32)).alloc (.cells zTd 36)).heap.size ((w.alloc (.cells (recA m (.slice la m.list.length lc)) 32)).alloc (.cells zTd 36)) V → Calls Try.prog 47 #[.pointer (some ⟨q, 0, none⟩), .string m.name] V (FoundP V q b es S m.key)) := fun V hV => findOrMake_any (HA.out.under hV) (by omega) m.name hn32
    unfold recA zTd at *
    clear j1 j3 j4 j5 j6 j7 HJZ
    go_enter Try.func38, Try.ntmps38
    go_wp2_with fail
    generalize (w.alloc (.cells #[.int .i64 m.kind, .int .i64 m.a, .int .i64 m.b, .int .i64 m.c, .int .i64 m.d, .string m.name, .string m.text, .slice la m.list.length lc] 32)).alloc (.cells #[.int .i64 0, .int .i64 0, .int .i64 0, .int .i64 0, .slice none 0 0] 36) = W at *
    refine HJE.out.mono ?_
    rintro e w1 ⟨rfl, hb1⟩
    have ht1 := HT.out.under hb1
    have HT1 := hid ht1
    have HB1 := hid hb1
    have HL1 := hid (HL.out.under hb1)
    have b5 := cell_blk ht1.x 5 _ rfl
    have b1 := cell_blk ht1.x 1 _ rfl
    clear hb1 ht1 a0 a1 a2 a3 a4 a5 a6 a7 HJE
    have hbx : ¬ w.heap.size = b := by omega
    have hbx2 : ¬ b = w.heap.size := by omega
    go_wp2_with fail
    go_region_held3 (fun V => V.cell? ⟨w.heap.size, 5, none⟩ = some (.string m.name) ∧ V.cell? ⟨w.heap.size, 1, none⟩ = some (.int .i64 m.a)) (go_keep)
      (first | (go_at_call 47; refine (HFM.out _ (by first | exact HB1.out | exact HB1.out.drew)).mono ?_; rintro e w4 ⟨es', x, rfl, hA4, hx4, hn4, hg4, ho4, hk4⟩; have ht4 := (HT1.out.under (Below.refl _ _).drew).next hk4 (fun j hj => .inl (by cases hj; exact HZB.out)) (fun hj => by omega) (fun hj => by omega); have HT4 := hid ht4; have d5 := cell_blk ht4.x 5 _ rfl; have d1 := cell_blk ht4.x 1 _ rfl; have HA4 := hid hA4; have HX4 := hid hx4; have HN4 := hid hn4; have HG4 := hid hg4; have HO4 := hid ho4; have HK4 := hid hk4; clear hA4 hx4 hn4 hg4 ho4 hk4 ht4) | fail)
    clear b5 b1 HFM d5 d1
    have hs1 := HT1.out.s
    have HBW1 : Hid (Below w.heap.size w w1.drew) := (HBW.out.trans (HB1.out.mono HBW.out.size)).drew
    obtain ⟨V1, hV1⟩ : ∃ V1, V1 = w1.drew := ⟨_, rfl⟩
    have hs1' : w.heap.size + 2 ≤ V1.heap.size := by rw [hV1]; exact hs1
    have HL1' : Hid (IL V1 (.slice la m.list.length lc) m.list) := by rw [hV1]; exact HL1.out.under (Below.refl _ _).drew
    rw [← hV1] at HK4 HO4 HBW1
    clear hV1 HL1 HT1 HB1
    obtain ⟨hgm, hne4⟩ := HA4.out.each x HX4.out
    rw [HG4.out] at hgm
    obtain ⟨vm, vp, ob, hC4, hO4, hIn4, hZ4⟩ := hgm
    have HC4 := hid hC4
    have HOW4 := hid hO4
    have HXZ : Hid (∀ j, x.own j → (Z j ∨ w.heap.size ≤ j) ∧ j ≠ w.heap.size ∧ j ≠ w.heap.size + 1) := fun j hj => by
      rcases HO4.out x HX4.out j hj with ⟨c, hc, hj2⟩ | h2
      · have := HZL.out j (HZE.out c hc j hj2); exact ⟨.inl (HZE.out c hc j hj2), by omega, by omega⟩
      · exact ⟨.inr (by omega), by omega, by omega⟩
    have HLX : Hid (In (fun j => ¬ x.own j) (.slice la m.list.length lc) m.list) := fun hne b' off n c e hj => by
      have h1 := HLZ.out hne b' off n c e
      have h2 := HLO.out hne b' off n c e
      rcases HO4.out x HX4.out b' hj with ⟨c, hc, hj2⟩ | h3
      · exact h1 (HZE.out c hc b' hj2)
      · omega
    have HL4 : Hid (IL w4 (.slice la m.list.length lc) m.list) := HL1'.out.keeps HK4.out (HLZ.out.mono fun j hj e => by cases e; exact hj HZB.out)
    have hnames := names_made HA4.out (made_names HOK.out.names)
    have HNM := hid hnames
    have hkl := HOW4.out _ (.inl rfl)
    obtain ⟨k, hk⟩ : ∃ k, k = x.at_ := ⟨_, rfl⟩
    have HKX := hid hk
    unfold ptr
    rw [← hk] at HC4 HOW4 hkl ⊢
    clear hk hC4 hO4 hnames HL1' hne4
    obtain ⟨G, hG⟩ : ∃ G, G = foundG S.gs m.key := ⟨_, rfl⟩
    have HGF := hid hG
    rw [← hG] at HC4 HG0 HJ4 HJ6 HJ7
    clear hG HG4
    have hkz := HXZ.out k hkl
    have hk1 : ¬ k = w.heap.size := hkz.2.1
    have hk2 : ¬ k = w.heap.size + 1 := hkz.2.2
    have hk3 : ¬ w.heap.size = k := fun e => hk1 e.symm
    have hk4' : ¬ w.heap.size + 1 = k := fun e => hk2 e.symm
    have hev := HG0.out.ever
    have hgb := HG0.out.gen
    have hml := HG0.out.few
    have HHAS := hid (join_has HG0.out (fun ha => (HJ4.out ha).2) j2)
    have HADM := hid (admit_any HC4.out (by omega) hev)
    clear hkz
    by_cases ha : m.a = 0
    · have ha' : (m.a == 0) = true := by simp [ha]
      have HAZ := hid ha
      rw [ha]
      clear ha
      go_wp2_with fail
      refine HADM.out.mono ?_
      rintro e w5 ⟨rfl, v2, hC5, hk5, hv5⟩
      have HC5 := hid hC5
      have HK5a := hid hk5
      have HV5 := hid hv5
      have HX5 : Hid (joinX G m = admitG G ∧ joinD G m = G.ever + 1) := ⟨by unfold joinX; rw [if_pos HAZ.out], by unfold joinD; rw [if_pos HAZ.out]⟩
      clear hC5 hk5 hv5 HADM
      have ht5 := HT4.out.next HK5a.out (fun j hj => (HXZ.out j (HOW4.out j hj)).1) (fun hj => (HXZ.out _ (HOW4.out _ hj)).2.1 rfl) (fun hj => (HXZ.out _ (HOW4.out _ hj)).2.2 rfl)
      have HT5 := hid ht5
      have HL5 := hid (HL4.out.keeps HK5a.out (HLX.out.mono fun j hj e => hj (HOW4.out j e)))
      have HCLN := hid (clone_any HL5.out)
      have b7 := cell_blk ht5.x 7 _ rfl
      have hcn := HC5.out.cells
      have HQ5 : Hid (∀ V, Below w5.heap.size w5 V → V.heap[k]? = some (.cells #[.int .i64 G.gen, .int .i64 (G.ever + 1), v2, vp, .map (some ob)] 72 (0, 0))) := fun V hV => (hV.block k (HC5.out.lt (.inl rfl))).trans HC5.out.cells
      have hXg : G.gen = G.gen := rfl
      have hgw : IntKind.i64.wrap (G.gen + 1) = G.gen + 1 := IntWalk.i64_in _ ⟨by rw [hXg]; omega, by rw [hXg]; omega⟩
      clear ht5 hcn hXg
      go_wp2_with fail
      refine HCLN.out.mono ?_
      rintro e w6 ⟨v6, rfl, hi6, hin6, hb6⟩
      obtain ⟨a6, n6, c6, rfl⟩ : ∃ a n c, v6 = .slice a n c := by obtain ⟨⟨a, cap, e, _⟩, _⟩ := hi6; exact ⟨_, _, _, e⟩
      have hq6 := HQ5.out w6 hb6
      have q3 := cell_blk hq6 3 _ rfl
      have q0 := cell_blk hq6 0 _ rfl
      have fq := frz_blk hq6
      have hs45 := HK5a.out.size
      have hap6 : In (fun j => ¬ Own k v2 ob j) (.slice a6 n6 c6) m.list := hin6.mono fun j hj ho => by
        have := HC5.out.lt ho
        omega
      have hC8 := ((HC5.out.under hb6).setp hi6 hap6).setg (G.gen + 1)
      have hk8 : Keeps (fun j => j = k) w6 ((w6.setCell ⟨k, 3, none⟩ (.slice a6 n6 c6)).setCell ⟨k, 0, none⟩ (.int .i64 (G.gen + 1))) := (Keeps.set (S := fun j => j = k) w6 (a := ⟨k, 3, none⟩) rfl _).trans (Keeps.set (S := fun j => j = k) _ (a := ⟨k, 0, none⟩) rfl _) (fun _ k => .inl k)
      have hK8 : Keeps x.own w4 ((w6.setCell ⟨k, 3, none⟩ (.slice a6 n6 c6)).setCell ⟨k, 0, none⟩ (.int .i64 (G.gen + 1))) := ((HK5a.out.mono HOW4.out).trans (Keeps.of_below (S := x.own) hb6) (fun _ k => .inl k)).trans hk8 (fun j hj => .inl (by cases hj; exact hkl))
      have ht8 := (HT5.out.under hb6).next hk8 (fun j hj => (HXZ.out j (by cases hj; exact hkl)).1) (fun hj => hk3 hj) (fun hj => hk4' hj)
      have hGM : GrM ((w6.setCell ⟨k, 3, none⟩ (.slice a6 n6 c6)).setCell ⟨k, 0, none⟩ (.int .i64 (G.gen + 1))) (fun j => Own k v2 ob j ∨ (blk (.slice a6 n6 c6) j ∧ m.list ≠ [])) k { { admitG G with parts := m.list } with gen := G.gen + 1 } := ⟨v2, _, ob, hC8, fun j hj => .inl hj, fun hne b' off n c e => .inr ⟨⟨off, n, c, e⟩, hne⟩, fun j hj => hj.elim (fun h => hC8.lt h) (fun h => by obtain ⟨⟨off, n, c, e⟩, hne⟩ := h; exact hC8.parts.old hne j off n c e)⟩
      have hOS : ∀ j, (Own k v2 ob j ∨ (blk (.slice a6 n6 c6) j ∧ m.list ≠ [])) → x.own j ∨ w4.heap.size ≤ j := fun j hj => by
        rcases hj with (h | h | h) | ⟨⟨off, n, c, e⟩, hne⟩
        · exact .inl (by rw [h]; exact hkl)
        · exact .inl (HOW4.out j (.inr (.inl h)))
        · rcases HV5.out j h with h2 | h2
          · exact .inl (HOW4.out j (.inr (.inr h2)))
          · exact .inr h2
        · have := hin6 hne j off n c e
          exact .inr (by omega)
      have HC8 := hid hC8
      have HK8 := hid hK8
      have HT8 := hid ht8
      have HGM := hid hGM
      have HOS := hid hOS
      have HY : Hid (({ { admitG G with parts := m.list } with gen := G.gen + 1 } : Gr) = joinG G m) := by show _ = _; unfold joinG; rw [HX5.out.1]
      clear hi6 hin6 hb6 hq6 hap6 hC8 hk8 hK8 ht8 hGM hOS HQ5 HCLN
      go_upto_region 9 with fail
      clear q3 q0 fq b7
      generalize (w6.setCell ⟨k, 3, none⟩ (.slice a6 n6 c6)).setCell ⟨k, 0, none⟩ (.int .i64 (G.gen + 1)) = W8 at *
      rw [HY.out] at HC8 HGM
      have hfy : (joinG G m).mem.length ≤ 1000 := by
        have : (joinG G m).mem = (joinX G m).mem := rfl
        rw [this, HX5.out.1]
        first | omega | (simp [admitG]; omega)
      have hidy : ∀ y ∈ (joinG G m).mem, I64 y.id := by
        have : (joinG G m).mem = (joinX G m).mem := rfl
        rw [this, HX5.out.1]
        intro y hy
        first
          | exact HG0.out.id64 y hy
          | (rcases List.mem_append.1 hy with h | h
             · exact HG0.out.id64 y h
             · obtain rfl := List.mem_singleton.1 h; unfold I64; constructor <;> (show _ ≤ _; simp only; omega))
      have HPO : Hid (∀ V, Below W8.heap.size W8 V → Calls Try.prog 49 #[.pointer (some ⟨k, 0, none⟩), .int .i64 (G.ever + 1)] V fun e w' => ∃ v', e = .returned v' ∧ IL w' v' (partsOf (joinG G m) (G.ever + 1)) ∧ In (fun b => V.heap.size ≤ b) v' (partsOf (joinG G m) (G.ever + 1)) ∧ Below V.heap.size V w') := fun V hV => by
        have := HHAS.out
        rw [HX5.out.2] at this
        exact partsOf_any (HC8.out.under hV).read hfy hidy (G.ever + 1) this
      have c0 : W8.cell? ⟨k, 0, none⟩ = some (.int .i64 (G.gen + 1)) := HC8.out.read.c0
      have HJT : Hid (joinT G m = ⟨0, (G.ever + 1), G.gen + 1, 0, partsOf (joinG G m) (G.ever + 1)⟩) := by show _ = _; unfold joinT; rw [HX5.out.2]
      have HTZ : Hid (∀ V, Below W8.heap.size W8 V → TB Z w V (#[.int .i64 m.kind, .int .i64 m.a, .int .i64 m.b, .int .i64 m.c, .int .i64 m.d, .string m.name, .string m.text, .slice la m.list.length lc]) (#[.int .i64 0, .int .i64 0, .int .i64 0, .int .i64 0, .slice none 0 0])) := fun V hV => HT8.out.under hV
      have HCZ : Hid (∀ V, Below W8.heap.size W8 V → V.cell? ⟨k, 0, none⟩ = some (.int .i64 (G.gen + 1))) := fun V hV => kept_cell hV c0
      clear hfy hidy
      go_wp2_with fail
      go_region_held3 (fun V => V.cell? ⟨k, 0, none⟩ = some (.int .i64 (G.gen + 1))) (go_keep)
        (first | (go_at_call 49; refine (HPO.out _ (by first | exact Below.refl _ _ | exact (Below.refl _ _).drew)).mono ?_; rintro e w9 ⟨v9, rfl, hi9, hin9, hb9⟩; obtain ⟨a9, n9, c9, rfl⟩ : ∃ a n c, v9 = .slice a n c := (by obtain ⟨⟨a, cap, e, _⟩, _⟩ := hi9; exact ⟨_, _, _, e⟩); have HB9 := hid ((show Below W8.heap.size W8 _ by first | exact Below.refl _ _ | exact (Below.refl _ _).drew).trans hb9); have d0 := HCZ.out w9 HB9.out; have ht9 := HTZ.out w9 HB9.out; have z0 := cell_blk ht9.z 0 _ rfl; have z1 := cell_blk ht9.z 1 _ rfl; have z2 := cell_blk ht9.z 2 _ rfl; have z3 := cell_blk ht9.z 3 _ rfl; have z4 := cell_blk ht9.z 4 _ rfl; have fz := frz_blk ht9.z; have HT9 := hid ht9; have HI9 := hid hi9; have HIN9 := hid hin9; clear hi9 hin9 hb9 ht9) | fail)
      go_wp2_with fail
      obtain rfl : n9 = (partsOf (joinG G m) (G.ever + 1)).length := by obtain ⟨⟨a, cap, e, _⟩, _⟩ := HI9.out; cases e; rfl
      clear z0 z1 z2 z3 z4 fz d0 c0
      have HT5 := hid ((HT9.out).five rfl (.int .i64 0) (.int .i64 (G.ever + 1)) (.int .i64 (G.gen + 1)) (.int .i64 0) (.slice a9 (partsOf (joinG G m) (G.ever + 1)).length c9))
      have HK5 := hid (five_keeps (w9) (w.heap.size + 1) (.int .i64 0) (.int .i64 (G.ever + 1)) (.int .i64 (G.gen + 1)) (.int .i64 0) (.slice a9 (partsOf (joinG G m) (G.ever + 1)).length c9))
      unfold five at HT5 HK5
      generalize ((((w9.setCell ⟨w.heap.size + 1, 0, none⟩ (.int .i64 0)).setCell ⟨w.heap.size + 1, 1, none⟩ (.int .i64 (G.ever + 1))).setCell ⟨w.heap.size + 1, 2, none⟩ (.int .i64 (G.gen + 1))).setCell ⟨w.heap.size + 1, 3, none⟩ (.int .i64 0)).setCell ⟨w.heap.size + 1, 4, none⟩ (.slice a9 (partsOf (joinG G m) (G.ever + 1)).length c9) = N5 at *
      have r0 := cell_blk HT5.out.z 0 _ rfl
      have r1 := cell_blk HT5.out.z 1 _ rfl
      have r2 := cell_blk HT5.out.z 2 _ rfl
      have r3 := cell_blk HT5.out.z 3 _ rfl
      have r4 := cell_blk HT5.out.z 4 _ rfl
      exact bodyPost_ret (v := .agg #[.int .i64 0, .int .i64 (G.ever + 1), .int .i64 (G.gen + 1), .int .i64 0, .slice a9 (partsOf (joinG G m) (G.ever + 1)).length c9]) (by simp [results, Try.results38, go_sem, r0, r1, r2, r3, r4]) rfl (by
        have hend := join_end (t := joinT G m) HZQ.out HZB.out HZE.out HZL.out HBW1.out hs1' HA4.out HX4.out HO4.out HK4.out HNM.out HK8.out (by rw [← HKX.out]; exact HGM.out) HOS.out HB9.out HK5.out (by rw [HJT.out]; exact HI9.out) (by rw [HJT.out]; exact HIN9.out)
        rw [HN4.out, show (({ S with gs := madeG S.gs m.key } : Gs)).gs = madeG S.gs m.key from rfl, made_get HOK.out.names] at hend
        rw [← HGF.out]
        rw [HJT.out] at hend ⊢
        exact hend)
    · have ha' : (m.a == 0) = false := by simp [ha]
      have HC5 := HC4
      have HK5a : Hid (Keeps (Own k vm ob) w4 w4) := Keeps.refl _ _
      have HV5 : Hid (∀ j, vm.ownBlock = some j → vm.ownBlock = some j ∨ w4.heap.size ≤ j) := fun j hj => .inl hj
      have HX5 : Hid (joinX G m = G ∧ joinD G m = m.a) := ⟨by unfold joinX; rw [if_neg ha], by unfold joinD; rw [if_neg ha]⟩
      clear HADM
      have ht5 := HT4.out.next HK5a.out (fun j hj => (HXZ.out j (HOW4.out j hj)).1) (fun hj => (HXZ.out _ (HOW4.out _ hj)).2.1 rfl) (fun hj => (HXZ.out _ (HOW4.out _ hj)).2.2 rfl)
      have HT5 := hid ht5
      have HL5 := hid (HL4.out.keeps HK5a.out (HLX.out.mono fun j hj e => hj (HOW4.out j e)))
      have HCLN := hid (clone_any HL5.out)
      have b7 := cell_blk ht5.x 7 _ rfl
      have hcn := HC5.out.cells
      have HQ5 : Hid (∀ V, Below w4.heap.size w4 V → V.heap[k]? = some (.cells #[.int .i64 G.gen, .int .i64 G.ever, vm, vp, .map (some ob)] 72 (0, 0))) := fun V hV => (hV.block k (HC5.out.lt (.inl rfl))).trans HC5.out.cells
      have hXg : G.gen = G.gen := rfl
      have hgw : IntKind.i64.wrap (G.gen + 1) = G.gen + 1 := IntWalk.i64_in _ ⟨by rw [hXg]; omega, by rw [hXg]; omega⟩
      clear ht5 hcn hXg
      go_wp2_with fail
      refine HCLN.out.mono ?_
      rintro e w6 ⟨v6, rfl, hi6, hin6, hb6⟩
      obtain ⟨a6, n6, c6, rfl⟩ : ∃ a n c, v6 = .slice a n c := by obtain ⟨⟨a, cap, e, _⟩, _⟩ := hi6; exact ⟨_, _, _, e⟩
      have hq6 := HQ5.out w6 hb6
      have q3 := cell_blk hq6 3 _ rfl
      have q0 := cell_blk hq6 0 _ rfl
      have fq := frz_blk hq6
      have hs45 := HK5a.out.size
      have hap6 : In (fun j => ¬ Own k vm ob j) (.slice a6 n6 c6) m.list := hin6.mono fun j hj ho => by
        have := HC5.out.lt ho
        omega
      have hC8 := ((HC5.out.under hb6).setp hi6 hap6).setg (G.gen + 1)
      have hk8 : Keeps (fun j => j = k) w6 ((w6.setCell ⟨k, 3, none⟩ (.slice a6 n6 c6)).setCell ⟨k, 0, none⟩ (.int .i64 (G.gen + 1))) := (Keeps.set (S := fun j => j = k) w6 (a := ⟨k, 3, none⟩) rfl _).trans (Keeps.set (S := fun j => j = k) _ (a := ⟨k, 0, none⟩) rfl _) (fun _ k => .inl k)
      have hK8 : Keeps x.own w4 ((w6.setCell ⟨k, 3, none⟩ (.slice a6 n6 c6)).setCell ⟨k, 0, none⟩ (.int .i64 (G.gen + 1))) := ((HK5a.out.mono HOW4.out).trans (Keeps.of_below (S := x.own) hb6) (fun _ k => .inl k)).trans hk8 (fun j hj => .inl (by cases hj; exact hkl))
      have ht8 := (HT5.out.under hb6).next hk8 (fun j hj => (HXZ.out j (by cases hj; exact hkl)).1) (fun hj => hk3 hj) (fun hj => hk4' hj)
      have hGM : GrM ((w6.setCell ⟨k, 3, none⟩ (.slice a6 n6 c6)).setCell ⟨k, 0, none⟩ (.int .i64 (G.gen + 1))) (fun j => Own k vm ob j ∨ (blk (.slice a6 n6 c6) j ∧ m.list ≠ [])) k { { G with parts := m.list } with gen := G.gen + 1 } := ⟨vm, _, ob, hC8, fun j hj => .inl hj, fun hne b' off n c e => .inr ⟨⟨off, n, c, e⟩, hne⟩, fun j hj => hj.elim (fun h => hC8.lt h) (fun h => by obtain ⟨⟨off, n, c, e⟩, hne⟩ := h; exact hC8.parts.old hne j off n c e)⟩
      have hOS : ∀ j, (Own k vm ob j ∨ (blk (.slice a6 n6 c6) j ∧ m.list ≠ [])) → x.own j ∨ w4.heap.size ≤ j := fun j hj => by
        rcases hj with (h | h | h) | ⟨⟨off, n, c, e⟩, hne⟩
        · exact .inl (by rw [h]; exact hkl)
        · exact .inl (HOW4.out j (.inr (.inl h)))
        · rcases HV5.out j h with h2 | h2
          · exact .inl (HOW4.out j (.inr (.inr h2)))
          · exact .inr h2
        · have := hin6 hne j off n c e
          exact .inr (by omega)
      have HC8 := hid hC8
      have HK8 := hid hK8
      have HT8 := hid ht8
      have HGM := hid hGM
      have HOS := hid hOS
      have HY : Hid (({ { G with parts := m.list } with gen := G.gen + 1 } : Gr) = joinG G m) := by show _ = _; unfold joinG; rw [HX5.out.1]
      clear hi6 hin6 hb6 hq6 hap6 hC8 hk8 hK8 ht8 hGM hOS HQ5 HCLN
      go_upto_region 9 with fail
      clear q3 q0 fq b7
      generalize (w6.setCell ⟨k, 3, none⟩ (.slice a6 n6 c6)).setCell ⟨k, 0, none⟩ (.int .i64 (G.gen + 1)) = W8 at *
      rw [HY.out] at HC8 HGM
      have hfy : (joinG G m).mem.length ≤ 1000 := by
        have : (joinG G m).mem = (joinX G m).mem := rfl
        rw [this, HX5.out.1]
        first | omega | (simp [admitG]; omega)
      have hidy : ∀ y ∈ (joinG G m).mem, I64 y.id := by
        have : (joinG G m).mem = (joinX G m).mem := rfl
        rw [this, HX5.out.1]
        intro y hy
        first
          | exact HG0.out.id64 y hy
          | (rcases List.mem_append.1 hy with h | h
             · exact HG0.out.id64 y h
             · obtain rfl := List.mem_singleton.1 h; unfold I64; constructor <;> (show _ ≤ _; simp only; omega))
      have HPO : Hid (∀ V, Below W8.heap.size W8 V → Calls Try.prog 49 #[.pointer (some ⟨k, 0, none⟩), .int .i64 m.a] V fun e w' => ∃ v', e = .returned v' ∧ IL w' v' (partsOf (joinG G m) m.a) ∧ In (fun b => V.heap.size ≤ b) v' (partsOf (joinG G m) m.a) ∧ Below V.heap.size V w') := fun V hV => by
        have := HHAS.out
        rw [HX5.out.2] at this
        exact partsOf_any (HC8.out.under hV).read hfy hidy m.a this
      have c0 : W8.cell? ⟨k, 0, none⟩ = some (.int .i64 (G.gen + 1)) := HC8.out.read.c0
      have HJT : Hid (joinT G m = ⟨0, m.a, G.gen + 1, 0, partsOf (joinG G m) m.a⟩) := by show _ = _; unfold joinT; rw [HX5.out.2]
      have HTZ : Hid (∀ V, Below W8.heap.size W8 V → TB Z w V (#[.int .i64 m.kind, .int .i64 m.a, .int .i64 m.b, .int .i64 m.c, .int .i64 m.d, .string m.name, .string m.text, .slice la m.list.length lc]) (#[.int .i64 0, .int .i64 0, .int .i64 0, .int .i64 0, .slice none 0 0])) := fun V hV => HT8.out.under hV
      have HCZ : Hid (∀ V, Below W8.heap.size W8 V → V.cell? ⟨k, 0, none⟩ = some (.int .i64 (G.gen + 1))) := fun V hV => kept_cell hV c0
      clear hfy hidy
      go_wp2_with fail
      go_region_held3 (fun V => V.cell? ⟨k, 0, none⟩ = some (.int .i64 (G.gen + 1))) (go_keep)
        (first | (go_at_call 49; refine (HPO.out _ (by first | exact Below.refl _ _ | exact (Below.refl _ _).drew)).mono ?_; rintro e w9 ⟨v9, rfl, hi9, hin9, hb9⟩; obtain ⟨a9, n9, c9, rfl⟩ : ∃ a n c, v9 = .slice a n c := (by obtain ⟨⟨a, cap, e, _⟩, _⟩ := hi9; exact ⟨_, _, _, e⟩); have HB9 := hid ((show Below W8.heap.size W8 _ by first | exact Below.refl _ _ | exact (Below.refl _ _).drew).trans hb9); have d0 := HCZ.out w9 HB9.out; have ht9 := HTZ.out w9 HB9.out; have z0 := cell_blk ht9.z 0 _ rfl; have z1 := cell_blk ht9.z 1 _ rfl; have z2 := cell_blk ht9.z 2 _ rfl; have z3 := cell_blk ht9.z 3 _ rfl; have z4 := cell_blk ht9.z 4 _ rfl; have fz := frz_blk ht9.z; have HT9 := hid ht9; have HI9 := hid hi9; have HIN9 := hid hin9; clear hi9 hin9 hb9 ht9) | fail)
      go_wp2_with fail
      obtain rfl : n9 = (partsOf (joinG G m) m.a).length := by obtain ⟨⟨a, cap, e, _⟩, _⟩ := HI9.out; cases e; rfl
      clear z0 z1 z2 z3 z4 fz d0 c0
      have HT5 := hid ((HT9.out).five rfl (.int .i64 0) (.int .i64 m.a) (.int .i64 (G.gen + 1)) (.int .i64 0) (.slice a9 (partsOf (joinG G m) m.a).length c9))
      have HK5 := hid (five_keeps (w9) (w.heap.size + 1) (.int .i64 0) (.int .i64 m.a) (.int .i64 (G.gen + 1)) (.int .i64 0) (.slice a9 (partsOf (joinG G m) m.a).length c9))
      unfold five at HT5 HK5
      generalize ((((w9.setCell ⟨w.heap.size + 1, 0, none⟩ (.int .i64 0)).setCell ⟨w.heap.size + 1, 1, none⟩ (.int .i64 m.a)).setCell ⟨w.heap.size + 1, 2, none⟩ (.int .i64 (G.gen + 1))).setCell ⟨w.heap.size + 1, 3, none⟩ (.int .i64 0)).setCell ⟨w.heap.size + 1, 4, none⟩ (.slice a9 (partsOf (joinG G m) m.a).length c9) = N5 at *
      have r0 := cell_blk HT5.out.z 0 _ rfl
      have r1 := cell_blk HT5.out.z 1 _ rfl
      have r2 := cell_blk HT5.out.z 2 _ rfl
      have r3 := cell_blk HT5.out.z 3 _ rfl
      have r4 := cell_blk HT5.out.z 4 _ rfl
      exact bodyPost_ret (v := .agg #[.int .i64 0, .int .i64 m.a, .int .i64 (G.gen + 1), .int .i64 0, .slice a9 (partsOf (joinG G m) m.a).length c9]) (by simp [results, Try.results38, go_sem, r0, r1, r2, r3, r4]) rfl (by
        have hend := join_end (t := joinT G m) HZQ.out HZB.out HZE.out HZL.out HBW1.out hs1' HA4.out HX4.out HO4.out HK4.out HNM.out HK8.out (by rw [← HKX.out]; exact HGM.out) HOS.out HB9.out HK5.out (by rw [HJT.out]; exact HI9.out) (by rw [HJT.out]; exact HIN9.out)
        rw [HN4.out, show (({ S with gs := madeG S.gs m.key } : Gs)).gs = madeG S.gs m.key from rfl, made_get HOK.out.names] at hend
        rw [← HGF.out]
        rw [HJT.out] at hend ⊢
        exact hend)
  · rw [if_pos h0]
    have h0' : (E0 == 0) = false := by simpa using h0
    clear HJZ
    go_enter Try.func38, Try.ntmps38
    go_wp2_with fail
    generalize (w.alloc (.cells #[.int .i64 m.kind, .int .i64 m.a, .int .i64 m.b, .int .i64 m.c, .int .i64 m.d, .string m.name, .string m.text, .slice la m.list.length lc] 32)).alloc (.cells #[.int .i64 0, .int .i64 0, .int .i64 0, .int .i64 0, .slice none 0 0] 36) = W at *
    refine HJE.out.mono ?_
    rintro e w1 ⟨rfl, hb1⟩
    have ht1 := HT.out.under hb1
    have z0 := cell_blk ht1.z 0 _ rfl
    have z1 := cell_blk ht1.z 1 _ rfl
    have z2 := cell_blk ht1.z 2 _ rfl
    have z3 := cell_blk ht1.z 3 _ rfl
    have z4 := cell_blk ht1.z 4 _ rfl
    have fz := frz_blk ht1.z
    have HT1 := hid ht1
    have HB1 := hid hb1
    clear hb1 ht1 a0 a1 a2 a3 a4 a5 a6 a7 HJE
    go_wp2_with fail
    clear z0 z1 z2 z3 z4 fz
    have HT5 := hid ((HT1.out).five rfl (.int .i64 E0) (.int .i64 0) (.int .i64 0) (.int .i64 0) (.slice none 0 0))
    have HK5 := hid (five_keeps (w1) (w.heap.size + 1) (.int .i64 E0) (.int .i64 0) (.int .i64 0) (.int .i64 0) (.slice none 0 0))
    unfold five at HT5 HK5
    generalize ((((w1.setCell ⟨w.heap.size + 1, 0, none⟩ (.int .i64 E0)).setCell ⟨w.heap.size + 1, 1, none⟩ (.int .i64 0)).setCell ⟨w.heap.size + 1, 2, none⟩ (.int .i64 0)).setCell ⟨w.heap.size + 1, 3, none⟩ (.int .i64 0)).setCell ⟨w.heap.size + 1, 4, none⟩ (.slice none 0 0) = N5 at *
    have r0 := cell_blk HT5.out.z 0 _ rfl
    have r1 := cell_blk HT5.out.z 1 _ rfl
    have r2 := cell_blk HT5.out.z 2 _ rfl
    have r3 := cell_blk HT5.out.z 3 _ rfl
    have r4 := cell_blk HT5.out.z 4 _ rfl
    exact bodyPost_ret (v := .agg #[.int .i64 E0, .int .i64 0, .int .i64 0, .int .i64 0, .slice none 0 0]) (by simp [results, Try.results38, go_sem, r0, r1, r2, r3, r4]) rfl (⟨Z, (HH.out.under (HBW.out.trans (HB1.out.mono HBW.out.size))).kept (fun k hk => HK5.out.block k (by have := HZL.out k hk; have := HT1.out.s; omega) (fun e => by have := HZL.out k hk; omega)) HK5.out.size, fun k hk => .inl hk, HT5.out.k, told_nil⟩)
end Go.Proofs.Ytdnpbhijjmlecaa
