/- Partitions are given by ranges: the walk. -/
import Derived.Test.YtdnpbhijjmlecaaA2
namespace Go.Proofs.Ytdnpbhijjmlecaa
open Go.RowKit Go.Maps
set_option maxRecDepth 100000
set_option linter.unusedSimpArgs false
set_option linter.unusedVariables false

theorem share_first (n k i : Nat) : shareN n k i ≤ shareN n k 0 ∧ shareN n k 0 ≤ shareN n k i + 1 := by
  unfold shareN
  constructor
  · split <;> split <;> omega
  · split <;> split <;> omega
theorem take_share (l : List Int) (k i : Nat) : l.take (fromN l.length k (i + 1)) = l.take (fromN l.length k i) ++ shareL l k i := by
  rw [fromN, List.take_add]; rfl
theorem RInv.cell {w wr : World} {v : Value} {l : List Int} {k : Nat} (h : RInv w wr v l k k) (j : Nat) (hj : j < k) : ∃ g c x, v = .slice (some ⟨g, 0, none⟩) k c ∧ wr.cell? ⟨g, j, none⟩ = some x ∧ IL wr x (shareL l k j) := by
  obtain ⟨ds, d1, d2, d3, d4⟩ := h
  obtain ⟨oa, cap, e, _, _, _, hat⟩ := row_shape (row_base d2)
  obtain ⟨g, rfl⟩ := hat (by omega)
  subst e
  have hc := World.ownsRow.cells d2 (g := g) rfl j ds[j] (by simp [List.getElem?_eq_getElem (show j < ds.length by omega)])
  rw [add_at, Nat.zero_add] at hc
  exact ⟨g, cap, _, rfl, hc, (d3 j (by omega)).1⟩
set_option maxHeartbeats 6400000 in
theorem assigns_walk {w : World} {v u : Value} {ms l : List Int} (hm : IL w v ms) (hl : IL w u l) : Calls Try.prog 4 #[v, u] w fun e w' => e = .returned (.bool true) ∧ Below w.heap.size w w' := by
  obtain ⟨i0, hi0, hz0, hz1, hz2⟩ := info3
  have HSH := hid (shown_any w)
  have HM := hid hm
  have HL := hid hl
  obtain ⟨ma, mc, rfl⟩ : ∃ a c, v = .slice a ms.length c := by obtain ⟨⟨a, cap, e, _⟩, _⟩ := hm; exact ⟨a, cap, e⟩
  obtain ⟨la, lc, rfl⟩ : ∃ a c, u = .slice a l.length c := by obtain ⟨⟨a, cap, e, _⟩, _⟩ := hl; exact ⟨a, cap, e⟩
  have hmf := hm.few
  have hlf := hl.few
  clear hm hl
  by_cases hk : ms.length ≤ 200
  · by_cases hn : l.length ≤ 2000
    · have hk' : ¬ (200 : Int) < (ms.length : Int) := by omega
      have hn' : ¬ (2000 : Int) < (l.length : Int) := by omega
      go_enter Try.func4, Try.ntmps4
      go_wp2_with fail
      refine HSH.out.mono ?_
      rintro e W1 ⟨rfl, hbs⟩
      have HBS := hid hbs
      clear HSH
      have HA := hid (assign_any (HM.out.under hbs) (HL.out.under hbs) (by omega))
      clear hbs
      go_wp2_with fail
      refine HA.out.mono ?_
      rintro e w2 ⟨rfl, hai⟩
      have HAI := hid hai
      have HB2 := hid (HBS.out.trans (hai.below.mono HBS.out.size))
      clear hai HA
      have HR := hid (rassign_any (HM.out.under HB2.out) (HL.out.under HB2.out) (by omega))
      go_wp2_with fail
      refine HR.out.mono ?_
      rintro e w3 ⟨v3, rfl, hri⟩
      have HRI := hid hri
      have HB3 := hid hri.below
      obtain ⟨ra, rc, rfl⟩ := hri.shape
      clear hri HR
      have HLW3 := hid (HL.out.under (HB2.out.trans (HB3.out.mono HB2.out.size)))
      obtain ⟨A, hA⟩ : ∃ A, A = W1.heap.size := ⟨_, rfl⟩
      have HCELL : Hid (∀ i, i < ms.length → ∃ xa xc g c ya yc, Value.slice ra ms.length rc = .slice (some ⟨g, 0, none⟩) ms.length c ∧ IL w3 (.slice xa (shareN l.length ms.length i) xc) (shareL l ms.length i) ∧ IL w3 (.slice ya (shareN l.length ms.length i) yc) (shareL l ms.length i) ∧ w3.cell? ⟨A, i, none⟩ = some (.slice xa (shareN l.length ms.length i) xc) ∧ w3.cell? ⟨g, i, none⟩ = some (.slice ya (shareN l.length ms.length i) yc)) := fun i hi => by
        obtain ⟨x, h1, h2, _⟩ := HAI.out.cell i hi
        obtain ⟨g, c, y, h4, h5, h6⟩ := HRI.out.cell i hi
        have hsl := shareL_len l ms.length i hi
        obtain ⟨xa, xc, rfl⟩ : ∃ a c, x = .slice a (shareL l ms.length i).length c := by obtain ⟨⟨a, cap, e, _⟩, _⟩ := h2; exact ⟨_, _, e⟩
        obtain ⟨ya, yc, rfl⟩ : ∃ a c, y = .slice a (shareL l ms.length i).length c := by obtain ⟨⟨a, cap, e, _⟩, _⟩ := h6; exact ⟨_, _, e⟩
        rw [hsl] at h1 h2 h5 h6
        refine ⟨xa, xc, g, c, ya, yc, h4, h2.under HB3.out, h6, ?_, h5⟩
        rw [hA]
        exact kept_cell HB3.out h1
      rw [← hA]
      clear hA
      have HTS := hid (take_share l ms.length)
      have HSF := hid (fun i => share_first l.length ms.length i)
      have HFT := hid (fun i hi => from_top l.length ms.length i hi)
      have HFS : Hid (∀ i, fromN l.length ms.length (i + 1) = fromN l.length ms.length i + shareN l.length ms.length i) := fun i => rfl
      have HFA := hid (fun h => from_all l.length ms.length h)
      generalize hK : ms.length = k at *
      clear hK
      go_wp2_with fail
      go_loopg [8, 9] k (fun kx s8 s9 wr => ∃ i : Nat, i ≤ k ∧ k - i ≤ kx ∧ s9 = .int .i64 (i : Int) ∧ (∃ a n c, s8 = .slice a n c) ∧ Hid (wr.ownsRow w3.heap.size 3 1 s8 (l.take (fromN l.length k i)).length (vals (l.take (fromN l.length k i))) ∧ Below w3.heap.size w3 wr))
      case atStart => exact ⟨0, Nat.zero_le _, by omega, rfl, ⟨_, _, _, rfl⟩, by simp [fromN, vals]; exact World.ownsRow_nil _ _ _ _, Below.refl _ _⟩
      case round =>
        obtain ⟨i, hi, hkx, rfl, ⟨a8, n8, c8, rfl⟩, HI⟩ := hrel
        by_cases hlt : i < k
        · have hlt' : (i : Int) < (k : Int) := by omega
          have hi0' : (0 : Int) ≤ (i : Int) := by omega
          have hk0' : (0 : Int) < (k : Int) := by omega
          obtain ⟨xa, xc, g, gc, ya, yc, e1, ix, iy, cx, cy⟩ := HCELL.out i hlt
          obtain ⟨xa0, xc0, _, _, _, _, _, ix0, _, cx0, _⟩ := HCELL.out 0 (by omega)
          simp only [Value.slice.injEq] at e1
          obtain ⟨rfl, _, rfl⟩ := e1
          have hsf := HSF.out i
          have hft := HFT.out i hlt
          have hft0 := HFT.out 0 (by omega)
          have HSL := hid (fun V (hV : Below w3.heap.size w3 V) => sameList_any (ix.under hV) (iy.under hV))
          have HIX := hid ix
          have dx := kept_cell HI.out.2 cx
          have dy := kept_cell HI.out.2 cy
          have HD0 : Hid (∀ V, Below w3.heap.size w3 V → V.cell? ⟨A, i, none⟩ = some (.slice xa (shareN l.length k i) xc) ∧ V.cell? ⟨A, 0, none⟩ = some (.slice xa0 (shareN l.length k 0) xc0)) := fun V hV => ⟨kept_cell hV cx, kept_cell hV cx0⟩
          have hT : decide (shareL l k i = shareL l k i) = true := by simp
          rw [hT] at HSL
          have HTI := hid (HTS.out i)
          have HFI := hid (HFS.out i)
          have HLI : Hid ((l.take (fromN l.length k i)).length = fromN l.length k i) := by show _ = _; rw [List.length_take]; omega
          have HLS := hid (shareL_len l k i hlt)
          clear cx cy cx0 ix iy ix0 hT
          generalize shareL l k i = ls at *
          generalize l.take (fromN l.length k i) = T at *
          generalize fromN l.length k i = f at *
          generalize hsi : shareN l.length k i = si at *
          generalize hs0 : shareN l.length k 0 = s0 at *
          clear hsi hs0
          go_wp2_with fail
          go_region_held3 (fun V => V.cell? ⟨A, i, none⟩ = some (.slice xa si xc) ∧ V.cell? ⟨g, i, none⟩ = some (.slice ya si yc)) (first | assumption | go_keep)
            (first | (go_at_call 17; refine (HSL.out _ (by first | exact HI.out.2 | exact HI.out.2.drew)).mono ?_; rintro e w5 ⟨rfl, hb5⟩; have hB5 := (by first | exact HI.out.2 | exact HI.out.2.drew : Below w3.heap.size w3 _).trans (hb5.mono (by first | exact HI.out.2 | exact HI.out.2.drew : Below w3.heap.size w3 _).size); have ex := (HD0.out w5 hB5).1; have ey : w5.cell? ⟨g, i, none⟩ = some (.slice ya si yc) := kept_cell hb5 (by first | exact dy | exact (by simpa using dy))) | fail)
          obtain ⟨ex1, ex0⟩ := HD0.out w5 hB5
          have hsn1 : ¬ (s0 : Int) < (si : Int) := by omega
          have hsn2 : ¬ (si : Int) < (s0 : Int) - 1 := by omega
          have hsw : IntKind.i64.wrap ((s0 : Int) - 1) = (s0 : Int) - 1 := IntWalk.i64_in _ ⟨by omega, by omega⟩
          have HROW5 : Hid (w5.ownsRow w3.heap.size 3 1 (.slice a8 n8 c8) T.length (vals T)) := by
            obtain ⟨h1, h2 | ⟨g', cp, cur, e, hB, hg, r⟩⟩ := HI.out.1
            · exact ⟨h1, .inl h2⟩
            · exact ⟨h1, .inr ⟨g', cp, cur, e, hB, (hb5.block g' (Array.getElem?_eq_some_iff.1 hg).1).trans hg, r⟩⟩
          have HB5 := hid hB5
          have HTN : Hid ((l.take (fromN l.length k (i + 1))).length = T.length + si ∧ vals (l.take (fromN l.length k (i + 1))) = vals T ++ vals ls) := by
            rw [HTI.out]
            exact ⟨by rw [List.length_append, HLS.out], by simp [vals]⟩
          have hTl : T.length ≤ 2000 := by have := HLI.out; omega
          have HON := hid (vals_one ls)
          have HLn : Hid ((vals ls).length = si * 1) := by show _ = _; rw [vals_length, HLS.out]; omega
          have hq1 : decide (s0 < si) = false := by simp; omega
          have hq2 : decide ((si : Int) < (s0 : Int) - 1) = false := by simp; omega
          have hq3 : (0 : Nat) < k := by omega
          go_wp2_with fail
          go_quiet (fail)
          clear hsn1 hsn2 hsw hq1 hq2 ex1 ex0
          obtain ⟨W5, hW5, hWB⟩ : ∃ W5, W5 = w5.drewN nq ∧ Below w5.heap.size w5 W5 := ⟨_, rfl, below_drewN (Below.refl _ _) _⟩
          have hbW : Below w3.heap.size w3 W5 := HB5.out.trans (hWB.mono HB5.out.size)
          have HROWd : Hid (W5.ownsRow w3.heap.size 3 1 (.slice a8 n8 c8) T.length (vals T)) := by
            obtain ⟨h1, h2 | ⟨g', cp, cur, e, hB, hg, r⟩⟩ := HROW5.out
            · exact ⟨h1, .inl h2⟩
            · exact ⟨h1, .inr ⟨g', cp, cur, e, hB, (hWB.block g' (Array.getElem?_eq_some_iff.1 hg).1).trans hg, r⟩⟩
          rw [← hW5]
          have exd := (HD0.out W5 hbW).1
          have HIX5 := hid (HIX.out.under hbW)
          have HBW := hid hbW
          clear hW5 hWB hbW hb5 HROW5
          generalize W5 = w5d at *
          cases xa with
          | none =>
            obtain ⟨hs0', hc0', hls⟩ := HIX.out.none_nil
            subst hs0'
            subst hc0'
            go_wp2_with (at_builtin; refine wpList_append_own_none rfl _ _ 30 rfl w3.heap.size 3 i0 1 Try.underlying30 hi0 _ T.length (vals T) rfl HROWd.out rfl ?_)
            go_roundg (k - (i + 1))
            case measure => omega
            case rel => exact ⟨i + 1, by omega, Nat.le_refl _, by go_num, ⟨_, _, _, rfl⟩, by rw [HTN.out.1, HTN.out.2, hls]; simp only [vals, List.map_nil, List.append_nil, Nat.add_zero]; exact HROWd.out, HBW.out⟩
          | some ad =>
            have HNW : Hid (∀ j u, (vals ls)[j]? = some u → w5d.cell? (ad.add j) = some u) := HIX5.out.vcells.2
            have hbz := HBW.out.size
            go_wp2_with (at_builtin; go_loud (refine wpList_append_own_at _ rfl _ _ 30 rfl w3.heap.size 3 i0 _ 1 8 Try.underlying30 hi0 hz0 hz1 hz2 rfl (by decide) _ T.length (vals T) rfl HROWd.out ad si xc (vals ls) rfl HLn.out HNW.out HON.out (by first | omega | (unfold maxLen; omega)) (by omega) (by first | omega | (simp; omega)) ?_); intro v6 w6 hown6 hg6 _ _; obtain ⟨a6, n6, c6, rfl⟩ := own_shape hown6; have HW6 := hid hown6; have HB6 := hid (HBW.out.grown hg6 (by first | exact HBW.out.size | simpa using HBW.out.size) (fun j hj => (World.ownsRow.lt HROWd.out j hj).1)); clear hown6 hg6)
            go_roundg (k - (i + 1))
            case measure => omega
            case rel => exact ⟨i + 1, by omega, Nat.le_refl _, by go_num, ⟨_, _, _, rfl⟩, by rw [HTN.out.1, HTN.out.2]; exact HW6.out, HB6.out⟩
        · have hik : i = k := by omega
          subst hik
          have hlt' : ¬ (i : Int) < (i : Int) := by omega
          have HBE := hid (HB2.out.trans (HB3.out.mono HB2.out.size))
          by_cases hk0 : i = 0
          · subst hk0
            go_wp2_with fail
            go_ret
            exact ⟨rfl, HBE.out.trans (HI.out.2.mono HBE.out.size)⟩
          · have hk0' : ((i : Int) == 0) = false := by simp; omega
            have HTL : Hid (l.take (fromN l.length i i) = l) := by show _ = _; rw [HFA.out (by omega), List.take_length]
            have hr := HI.out.1
            rw [HTL.out] at hr
            have hlen8 : n8 = l.length := by
              obtain ⟨oa, cap, e, _⟩ := row_shape (row_base hr)
              cases e; rfl
            subst hlen8
            have HSS := hid (sameList_any (IL.of hr HL.out.ok HL.out.few) (HLW3.out.under HI.out.2))
            rw [show decide (l = l) = true by simp] at HSS
            clear hr
            go_wp2_with (go_at_call 17; refine HSS.out.mono ?_; rintro e w7 ⟨rfl, hb7⟩; have HB7 := hid hb7; clear hb7)
            go_ret
            exact ⟨rfl, (HBE.out.trans (HI.out.2.mono HBE.out.size)).trans (HB7.out.mono (Nat.le_trans HBE.out.size HI.out.2.size))⟩
    · have hk' : ¬ (200 : Int) < (ms.length : Int) := by omega
      have hn' : (2000 : Int) < (l.length : Int) := by omega
      go_enter Try.func4, Try.ntmps4
      go_wp2_with fail
      refine HSH.out.mono ?_
      rintro e W1 ⟨rfl, hbs⟩
      go_wp2_with fail
      go_ret
      exact ⟨rfl, hbs⟩
  · have hk' : (200 : Int) < (ms.length : Int) := by omega
    go_enter Try.func4, Try.ntmps4
    go_wp2_with fail
    refine HSH.out.mono ?_
    rintro e W1 ⟨rfl, hbs⟩
    go_wp2_with fail
    go_ret
    exact ⟨rfl, hbs⟩
end Go.Proofs.Ytdnpbhijjmlecaa
