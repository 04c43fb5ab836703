/- The document's Begin. -/
import Derived.Test.YtjggdecjnnpjaaaGreatH18
namespace Go.Proofs.YtjggdecjnnpjaaaGreat
open Go.RowKit Go.Maps Go.Sort
set_option maxRecDepth 100000
set_option linter.unusedSimpArgs false
set_option linter.unusedVariables false

set_option maxHeartbeats 6400000 in
theorem rbegin_any {w : World} {B : Nat → Prop} {q r name l size fs} (h : RD w B q r name l size fs) (hok : LOk size fs) (hk : EOk l) (hn : name.size ≤ maxLen) (e o : Int) :
    Calls Tryz.prog 10 #[.pointer (some ⟨q, 0, none⟩), .int .i64 e, .int .i64 o] w fun en w' => RPost B w q r name l size fs (beginW l e o) en w' := by
  have H34 : Hid (∀ n : Int, Calls Tryz.prog 34 #[.int .i64 n] w fun en w' => en = .returned (.bool (inB n)) ∧ w = w') := fun n => (rmay_any n w).mono fun e w' ⟨e1, e2⟩ => ⟨e1, e2.symm⟩
  have HD := hid h
  have HIe := hid (inB_iff e)
  have HIo := hid (inB_iff o)
  have H35 : Hid (∀ W, Below w.heap.size w W → Calls Tryz.prog 35 #[.pointer (some ⟨q, 0, none⟩), .int .i64 o] W fun e w' => ∃ rv, e = .returned rv ∧ w'.ownsRow w.heap.size 51 3 rv (cutW l o).length (flatA (cutW l o)) ∧ Below w.heap.size w w') := fun W hb => h.ahead hk hb o
  have HWr : Hid (∀ W v', Below w.heap.size w W → EOk (cutW l o ++ [(e, o)]) → W.ownsRow w.heap.size 51 3 v' ((cutW l o).length + 1) (flatA (cutW l o ++ [(e, o)])) → (cutW l o).length + 1 = (cutW l o ++ [(e, o)]).length → Calls Tryz.prog 36 #[.pointer (some ⟨q, 0, none⟩), v'] W fun e' w' => RPost B w q r name l size fs (0, cutW l o ++ [(e, o)]) e' w') := fun W v' hb hk2 hr hl => h.write hok hk hn hb hk2 hr hl
  obtain ⟨U, T, v, dv, hRC, _, _, _⟩ := id h
  obtain ⟨k0, k1, k2⟩ := hRC.c
  obtain ⟨oa, cap, rfl, hoa⟩ := hRC.ents.shape
  have HAL := hid hRC.ents
  have HK := hid hk
  have hlen := hk.few
  clear h hok hk hRC
  have He := hid (H34.out e)
  have Ho := hid (H34.out o)
  cases hI : inB e with
  | false =>
    have HC : Hid (beginW l e o = (1, l)) := by
      have := HIe.out
      rw [hI] at this
      show _ = _
      unfold beginW
      rw [if_pos (fun hh => by simpa using this.2 hh.1)]
    rw [hI] at He
    go_enter Tryz.func10, Tryz.ntmps10
    go_wp2_with fail
    refine He.out.mono ?_
    rintro en w1 ⟨rfl, rfl⟩
    go_wp2_with fail
    refine Ho.out.mono ?_
    rintro en w1 ⟨rfl, rfl⟩
    go_wp2_with fail
    go_ret
    rw [HC.out]
    exact rcall_err HD.out (Below.refl _ _) _ 1 (by omega)
  | true =>
  cases hJ : inB o with
  | false =>
    have HC : Hid (beginW l e o = (1, l)) := by
      have := HIo.out
      rw [hJ] at this
      show _ = _
      unfold beginW
      rw [if_pos (fun hh => by simpa using this.2 hh.2)]
    rw [hI] at He
    rw [hJ] at Ho
    go_enter Tryz.func10, Tryz.ntmps10
    go_wp2_with fail
    refine He.out.mono ?_
    rintro en w1 ⟨rfl, rfl⟩
    go_wp2_with fail
    refine Ho.out.mono ?_
    rintro en w1 ⟨rfl, rfl⟩
    go_wp2_with fail
    go_ret
    rw [HC.out]
    exact rcall_err HD.out (Below.refl _ _) _ 1 (by omega)
  | true =>
  have HN := hid (And.intro (HIe.out.1 hI) (HIo.out.1 hJ))
  rw [hI] at He
  rw [hJ] at Ho
  have HCb : Hid (beginW l e o = match l.getLast? with | none => newW l e o | some x => if e = x.1 ∧ x.2 ≤ o then (0, l) else if e ≤ x.1 then (13, l) else newW l e o) := by
    show _ = _
    unfold beginW
    rw [if_neg (fun h => h HN.out)]
    rfl
  have HNOK0 : Hid ((∀ y ∈ l, y.1 < e) → (newW l e o).1 = 0 → EOk (cutW l o ++ [(e, o)])) := fun ht h0 => by
    have := newW_ok HK.out HN.out.1 HN.out.2 ht
    unfold newW at this h0
    by_cases h2 : 200 ≤ (cutW l o).length
    · rw [if_pos h2] at h0; cases h0
    · rw [if_neg h2] at this; exact this
  cases hlast : l.getLast? with
  | none =>
    have hl0 : l = [] := List.getLast?_eq_none_iff.1 hlast
    have hl1 : l.length = 0 := by rw [hl0]; rfl
    have HC : Hid (beginW l e o = newW l e o) := by show _ = _; rw [HCb.out, hlast]
    have HTp : Hid (∀ y ∈ l, y.1 < e) := fun y hy => by rw [hl0] at hy; simp at hy
    clear HCb hl0 hlast hoa
    go_enter Tryz.func10, Tryz.ntmps10
    go_wp2_with fail
    refine He.out.mono ?_
    rintro en w1 ⟨rfl, rfl⟩
    go_wp2_with fail
    refine Ho.out.mono ?_
    rintro en w1 ⟨rfl, rfl⟩
    have HS1 : Hid (200 ≤ (cutW l o).length → beginW l e o = (3, l)) := fun h => by rw [HC.out]; unfold newW; rw [if_pos h]
    have HS2 : Hid (¬ 200 ≤ (cutW l o).length → beginW l e o = (0, cutW l o ++ [(e, o)])) := fun h => by rw [HC.out]; unfold newW; rw [if_neg h]
    have HS3 : Hid (¬ 200 ≤ (cutW l o).length → ∀ W v', Below w.heap.size w W → W.ownsRow w.heap.size 51 3 v' ((cutW l o).length + 1) (flatA (cutW l o) ++ acells (e, o)) → Calls Tryz.prog 36 #[.pointer (some ⟨q, 0, none⟩), v'] W fun e' w' => RPost B w q r name l size fs (0, cutW l o ++ [(e, o)]) e' w') := fun h W v' hb hr => by
      refine HWr.out W v' hb (HNOK0.out HTp.out ?_) ?_ (by simp)
      · unfold newW; rw [if_neg h]
      · rw [flatA_append]
        simpa [flatA] using hr
    have hcl := cutW_len l o
    clear HWr HNOK0 HTp HC
    generalize cutW l o ++ [(e, o)] = LN at *
    generalize flatA (cutW l o) = F at *
    generalize (cutW l o).length = N at *
    go_wp2_with fail
    refine (H35.out _ (by first | exact Below.refl _ _)).mono ?_
    rintro en w2 ⟨rv, rfl, hr2, hb2⟩
    have hbs := hb2.size
    have HRw : Hid ((w2.alloc (.cells #[.int .i64 e, .int .i64 o, .string ⟨#[]⟩] 51)).ownsRow w.heap.size 51 3 rv N F) := ownsRow_kept hr2 (fun j hj => Below.heap_alloc _ _ _ (World.ownsRow.lt hr2 j hj).2)
    have HNW : Hid (∀ j u, [Value.int .i64 e, .int .i64 o, .string ⟨#[]⟩][j]? = some u → (w2.alloc (.cells #[.int .i64 e, .int .i64 o, .string ⟨#[]⟩] 51)).cell? ((⟨w2.heap.size, 0, none⟩ : Addr).add j) = some u) := fun j u hu => by
      rw [add_lit0]
      exact cell_at (heap_alloc_new w2 (.cells #[.int .i64 e, .int .i64 o, .string ⟨#[]⟩] 51)) (by simpa using hu)
    have HON : Hid (∀ u ∈ [Value.int .i64 e, .int .i64 o, .string ⟨#[]⟩], u.oneCell' = true) := fun u hu => by
      simp at hu
      rcases hu with rfl | rfl | rfl <;> rfl
    have HGR : Hid (∀ v' w3, w3.ownsRow w.heap.size 51 3 v' (N + 1) (F ++ [Value.int .i64 e, .int .i64 o, .string ⟨#[]⟩]) → (w2.alloc (.cells #[.int .i64 e, .int .i64 o, .string ⟨#[]⟩] 51)).grownBy w3 rv.ownBlock → (∃ oz cz, v' = .slice oz (N + 1) cz) ∧ Below w.heap.size w w3) := fun v' w3 ho hg => by
      have hba := hb2.alloc hbs (.cells #[.int .i64 e, .int .i64 o, .string ⟨#[]⟩] 51)
      refine ⟨?_, hba.grown hg hba.size (fun j hj => (World.ownsRow.lt hr2 j hj).1)⟩
      rcases ho.2 with ⟨e1, h0⟩ | ⟨g', cap', cur, e1, _⟩
      · omega
      · exact ⟨_, _, e1⟩
    obtain ⟨i0, hi0, hz0, hz1, hz2⟩ := info51
    clear H35 hr2
    by_cases h200 : 200 ≤ N
    · exact absurd h200 (by omega)
    · have HN1 := hid (HS2.out h200)
      have h201 : ¬ (200 : Int) < (N : Int) + 1 := by omega
      go_wp2_with (at_builtin; refine wpList_append_own_at _ rfl _ _ 44 rfl w.heap.size 51 i0 _ 3 32 Tryz.underlying44 hi0 hz0 hz1 hz2 rfl (by decide) _ N F rfl HRw.out ⟨w2.heap.size, 0, none⟩ 1 1 [.int .i64 e, .int .i64 o, .string ⟨#[]⟩] rfl rfl HNW.out HON.out (by unfold maxLen; omega) (by omega) (by simp; omega) ?_; intro v' w3 hown3 hg3 _ hat; obtain ⟨⟨oz, cz, hvz⟩, f2⟩ := HGR.out _ _ hown3 hg3; subst hvz; have HF1 := hid hown3; have HF2 := hid f2; clear f2 hown3 hg3 hat)
      refine (HS3.out h200 _ _ HF2.out HF1.out).mono ?_
      rintro en w4 ⟨rfl, hp⟩
      have HP := hid hp
      clear hp
      go_wp2_with fail
      go_ret
      rw [HN1.out]
      exact ⟨rfl, HP.out⟩
  | some x =>
    have hpos : 0 < l.length := by cases l with | nil => simp at hlast | cons y r => simp
    have hxl : l[l.length - 1]? = some x := by rw [← hlast, List.getLast?_eq_getElem?]
    obtain ⟨g, rfl⟩ := hoa hpos
    obtain ⟨r0, r1, r2⟩ := HAL.out.at_ _ _ hxl
    have HT := hid (getLast_top HK.out.rise hlast)
    rw [hlast] at HCb
    simp only at HCb
    have hpI : (0 : Int) < (l.length : Int) := by omega
    obtain ⟨n, hn1⟩ : ∃ n, l.length = n + 1 := ⟨l.length - 1, by omega⟩
    have hn2 : l.length - 1 = n := by omega
    rw [hn2] at r0 r1 r2
    have hn3 : IntKind.i64.wrap ((n : Int) + 1 - 1) = (n : Int) := by rw [IntWalk.i64_in _ (by omega)]; omega
    have hn4 : IntKind.i64.wrap (n : Int) = (n : Int) := IntWalk.i64_in _ (by omega)
    have hn5 : (n : Int) < (n : Int) + 1 := by omega
    have hb1a := (Below.refl w.heap.size w).alloc (Nat.le_refl _) (.cells #[.int .i64 x.1, .int .i64 x.2, .string ⟨#[]⟩] 51)
    have HB1a := hid hb1a
    clear hoa hxl hlast hb1a
    rw [hn1] at k2
    have HL1 := hid hn1
    clear hn2 hn1
    go_enter Tryz.func10, Tryz.ntmps10
    go_wp2_with fail
    refine He.out.mono ?_
    rintro en w1 ⟨rfl, rfl⟩
    go_wp2_with fail
    refine Ho.out.mono ?_
    rintro en w1 ⟨rfl, rfl⟩
    go_wp2_with fail
    go_region_held3 (fun w' => w'.cell? ⟨q, 2, none⟩ = some (.slice (some ⟨g, 0, none⟩) (n + 1) cap) ∧ w'.cell? ⟨g, n * 3, none⟩ = some (.int .i64 x.1) ∧ w'.cell? ⟨g, n * 3 + 1, none⟩ = some (.int .i64 x.2) ∧ w'.cell? ⟨g, n * 3 + 2, none⟩ = some (.string ⟨#[]⟩)) (go_keep) (fail)
    have HB1 : Hid (Below w.heap.size w (w.alloc (.cells #[.int .i64 x.1, .int .i64 x.2, .string ⟨#[]⟩] 51)).drew) := HB1a.out.drew
    have HX1 : Hid ((w.alloc (.cells #[.int .i64 x.1, .int .i64 x.2, .string ⟨#[]⟩] 51)).drew.heap[w.heap.size]? = some (.cells #[.int .i64 x.1, .int .i64 x.2, .string ⟨#[]⟩] 51)) := heap_alloc_new w _
    generalize (w.alloc (.cells #[.int .i64 x.1, .int .i64 x.2, .string ⟨#[]⟩] 51)).drew = W1 at *
    have x0 := cell_at HX1.out (j := 0) rfl
    have x1 := cell_at HX1.out (j := 1) rfl
    clear HB1a r0 r1 r2
    by_cases h1 : e = x.1
    · have c1 : (e == x.1) = true := by simp [h1]
      by_cases h2 : x.2 ≤ o
      · rw [if_pos ⟨h1, h2⟩] at HCb
        clear H35 HWr h1
        go_wp2_with fail
        go_ret
        rw [HCb.out]
        exact rcall_none HD.out HB1.out
      · rw [if_neg (fun hh => h2 hh.2), if_pos (by omega)] at HCb
        have h3 : e ≤ x.1 := by omega
        clear H35 HWr h1
        go_wp2_with fail
        go_ret
        rw [HCb.out]
        exact rcall_err HD.out HB1.out _ 13 (by omega)
    · have c1 : (e == x.1) = false := by simp [h1]
      by_cases h3 : e ≤ x.1
      · rw [if_neg (fun hh => h1 hh.1), if_pos h3] at HCb
        clear H35 HWr h1
        go_wp2_with fail
        go_ret
        rw [HCb.out]
        exact rcall_err HD.out HB1.out _ 13 (by omega)
      · rw [if_neg (fun hh => h1 hh.1), if_neg h3] at HCb
        have HC := hid HCb.out
        have HTp : Hid (∀ y ∈ l, y.1 < e) := fun y hy => by have := HT.out y hy; omega
        clear HCb HT h1
        have HS1 : Hid (200 ≤ (cutW l o).length → beginW l e o = (3, l)) := fun h => by rw [HC.out]; unfold newW; rw [if_pos h]
        have HS2 : Hid (¬ 200 ≤ (cutW l o).length → beginW l e o = (0, cutW l o ++ [(e, o)])) := fun h => by rw [HC.out]; unfold newW; rw [if_neg h]
        have HS3 : Hid (¬ 200 ≤ (cutW l o).length → ∀ W v', Below w.heap.size w W → W.ownsRow w.heap.size 51 3 v' ((cutW l o).length + 1) (flatA (cutW l o) ++ acells (e, o)) → Calls Tryz.prog 36 #[.pointer (some ⟨q, 0, none⟩), v'] W fun e' w' => RPost B w q r name l size fs (0, cutW l o ++ [(e, o)]) e' w') := fun h W v' hb hr => by
          refine HWr.out W v' hb (HNOK0.out HTp.out ?_) ?_ (by simp)
          · unfold newW; rw [if_neg h]
          · rw [flatA_append]
            simpa [flatA] using hr
        have hcl := cutW_len l o
        clear HWr HNOK0 HTp HC
        generalize cutW l o ++ [(e, o)] = LN at *
        generalize flatA (cutW l o) = F at *
        generalize (cutW l o).length = N at *
        go_wp2_with fail
        refine (H35.out _ (by exact HB1.out)).mono ?_
        rintro en w2 ⟨rv, rfl, hr2, hb2⟩
        have hbs := hb2.size
        have HRw : Hid ((w2.alloc (.cells #[.int .i64 e, .int .i64 o, .string ⟨#[]⟩] 51)).ownsRow w.heap.size 51 3 rv N F) := ownsRow_kept hr2 (fun j hj => Below.heap_alloc _ _ _ (World.ownsRow.lt hr2 j hj).2)
        have HNW : Hid (∀ j u, [Value.int .i64 e, .int .i64 o, .string ⟨#[]⟩][j]? = some u → (w2.alloc (.cells #[.int .i64 e, .int .i64 o, .string ⟨#[]⟩] 51)).cell? ((⟨w2.heap.size, 0, none⟩ : Addr).add j) = some u) := fun j u hu => by
          rw [add_lit0]
          exact cell_at (heap_alloc_new w2 (.cells #[.int .i64 e, .int .i64 o, .string ⟨#[]⟩] 51)) (by simpa using hu)
        have HON : Hid (∀ u ∈ [Value.int .i64 e, .int .i64 o, .string ⟨#[]⟩], u.oneCell' = true) := fun u hu => by
          simp at hu
          rcases hu with rfl | rfl | rfl <;> rfl
        have HGR : Hid (∀ v' w3, w3.ownsRow w.heap.size 51 3 v' (N + 1) (F ++ [Value.int .i64 e, .int .i64 o, .string ⟨#[]⟩]) → (w2.alloc (.cells #[.int .i64 e, .int .i64 o, .string ⟨#[]⟩] 51)).grownBy w3 rv.ownBlock → (∃ oz cz, v' = .slice oz (N + 1) cz) ∧ Below w.heap.size w w3) := fun v' w3 ho hg => by
          have hba := hb2.alloc hbs (.cells #[.int .i64 e, .int .i64 o, .string ⟨#[]⟩] 51)
          refine ⟨?_, hba.grown hg hba.size (fun j hj => (World.ownsRow.lt hr2 j hj).1)⟩
          rcases ho.2 with ⟨e1, h0⟩ | ⟨g', cap', cur, e1, _⟩
          · omega
          · exact ⟨_, _, e1⟩
        obtain ⟨i0, hi0, hz0, hz1, hz2⟩ := info51
        clear H35 hr2
        by_cases h200 : 200 ≤ N
        · have HN1 := hid (HS1.out h200)
          have h201 : (200 : Int) < (N : Int) + 1 := by omega
          go_wp2_with (at_builtin; refine wpList_append_own_at _ rfl _ _ 44 rfl w.heap.size 51 i0 _ 3 32 Tryz.underlying44 hi0 hz0 hz1 hz2 rfl (by decide) _ N F rfl HRw.out ⟨w2.heap.size, 0, none⟩ 1 1 [.int .i64 e, .int .i64 o, .string ⟨#[]⟩] rfl rfl HNW.out HON.out (by unfold maxLen; omega) (by omega) (by simp; omega) ?_; intro v' w3 hown3 hg3 _ hat; obtain ⟨⟨oz, cz, hvz⟩, f2⟩ := HGR.out _ _ hown3 hg3; subst hvz; have HF1 := hid hown3; have HF2 := hid f2; clear f2 hown3 hg3 hat)
          go_ret
          rw [HN1.out]
          exact rcall_err HD.out HF2.out _ 3 (by omega)
        · have HN1 := hid (HS2.out h200)
          have h201 : ¬ (200 : Int) < (N : Int) + 1 := by omega
          go_wp2_with (at_builtin; refine wpList_append_own_at _ rfl _ _ 44 rfl w.heap.size 51 i0 _ 3 32 Tryz.underlying44 hi0 hz0 hz1 hz2 rfl (by decide) _ N F rfl HRw.out ⟨w2.heap.size, 0, none⟩ 1 1 [.int .i64 e, .int .i64 o, .string ⟨#[]⟩] rfl rfl HNW.out HON.out (by unfold maxLen; omega) (by omega) (by simp; omega) ?_; intro v' w3 hown3 hg3 _ hat; obtain ⟨⟨oz, cz, hvz⟩, f2⟩ := HGR.out _ _ hown3 hg3; subst hvz; have HF1 := hid hown3; have HF2 := hid f2; clear f2 hown3 hg3 hat)
          refine (HS3.out h200 _ _ HF2.out HF1.out).mono ?_
          rintro en w4 ⟨rfl, hp⟩
          have HP := hid hp
          clear hp
          go_wp2_with fail
          go_ret
          rw [HN1.out]
          exact ⟨rfl, HP.out⟩

end Go.Proofs.YtjggdecjnnpjaaaGreat

/- What the document's Delete and End make of entries. -/
namespace Go.Proofs.YtjggdecjnnpjaaaGreat
set_option linter.unusedSimpArgs false
set_option linter.unusedVariables false

theorem found_some (l : List (Int × Int)) (p : Int × Int → Bool) : ∃ r, FoundAt l p r := by
  refine ⟨l.findIdx p, List.findIdx_le_length, ?_, ?_⟩
  · rcases Nat.eq_zero_or_pos (l.findIdx p) with h0 | h0
    · exact .inl h0
    · refine .inr (fun z hz => ?_)
      have hlt : l.findIdx p - 1 < l.findIdx p := by omega
      obtain ⟨h1, h2⟩ := List.getElem?_eq_some_iff.1 hz
      have := List.not_of_lt_findIdx hlt
      rw [h2] at this
      simpa using this
  · rcases Nat.lt_or_ge (l.findIdx p) l.length with h0 | h0
    · refine .inr (fun z hz => ?_)
      obtain ⟨h1, h2⟩ := List.getElem?_eq_some_iff.1 hz
      have := List.findIdx_getElem (p := p) (xs := l) (w := h0)
      rw [h2] at this
      exact this
    · exact .inl (by have := List.findIdx_le_length (p := p) (xs := l); omega)
/-- How many entries Delete leaves out. -/
def skipN (l : List (Int × Int)) (o : Int) : Nat := l.length - (delW l o).length
theorem del_at {l : List (Int × Int)} (h : EOk l) (o : Int) : (delW l o).length = l.length - skipN l o ∧ skipN l o ≤ l.length ∧ (0 < l.length → skipN l o < l.length) ∧
    ∀ (i : Nat) x, l[i]? = some x → ((∀ y, l[i + 1]? = some y → (y.2 ≤ o ↔ i < skipN l o)) ∧ (l.length ≤ i + 1 → skipN l o ≤ i) ∧ (skipN l o ≤ i → (delW l o)[i - skipN l o]? = some (if i = skipN l o then (x.1, max x.2 o) else x))) := by
  obtain ⟨r, f⟩ := found_some l (fun x => decide (o < x.2))
  have hb := f.both h (fun x y hxy hx => by simp at hx ⊢; omega)
  obtain ⟨g1, g2⟩ := found_del h f
  have hr := f.le
  have hb' : ∀ (i : Nat) x, l[i]? = some x → (o < x.2 ↔ r ≤ i) := fun i x hx => by have := hb i x hx; simpa using this
  rcases Nat.eq_zero_or_pos r with h0 | h0
  · have hd := g1 h0
    have hs : skipN l o = 0 := by unfold skipN; rw [hd]; omega
    rw [hd, hs]
    refine ⟨by omega, by omega, fun h => h, fun i x hx => ⟨fun y hy => ?_, fun _ => by omega, fun _ => ?_⟩⟩
    · have := hb' (i + 1) y hy; omega
    · have hx2 := hb' i x hx
      rw [Nat.sub_zero, hx]
      split
      · congr 1
        have : max x.2 o = x.2 := by omega
        rw [this]
      · rfl
  · have hz : l[r - 1]? = some l[r - 1] := by simp
    have hd := g2 _ (by omega) hz
    have hlen : (delW l o).length = l.length - r + 1 := by rw [hd]; simp
    have hs : skipN l o = r - 1 := by unfold skipN; rw [hlen]; omega
    rw [hs]
    refine ⟨by rw [hlen]; omega, by omega, fun _ => by omega, fun i x hx => ⟨fun y hy => ?_, fun h1 => ?_, fun hi => ?_⟩⟩
    · have := hb' (i + 1) y hy; omega
    · have := (List.getElem?_eq_some_iff.1 hx).1; omega
    · rw [hd]
      by_cases he : i = r - 1
      · subst he
        rw [if_pos rfl, Nat.sub_self, List.getElem?_cons_zero]
        rw [hx] at hz
        cases hz
        have hx2 := hb' (r - 1) _ hx
        have : max (l[r - 1]).2 o = o := by omega
        rw [this]
      · rw [if_neg he]
        have e : i - (r - 1) = (i - r) + 1 := by omega
        rw [e, List.getElem?_cons_succ, List.getElem?_drop]
        have e2 : r + (i - r) = i := by omega
        rw [e2, hx]
/-- What End tells, from the last entry that is not above. -/
theorem end_at {l : List (Int × Int)} (h : EOk l) (e next : Int) (i : Nat) (x : Int × Int) (hx : l[i]? = some x) (hle : x.1 ≤ e) (hab : ∀ (j : Nat) y, i < j → l[j]? = some y → e < y.1) :
    (i + 1 = l.length → endW l e next = (x.1, next)) ∧ (∀ y, l[i + 1]? = some y → endW l e next = (x.1, y.2)) := by
  have hil := (List.getElem?_eq_some_iff.1 hx).1
  have f : FoundAt l (fun x => decide (e < x.1)) (i + 1) := by
    refine ⟨by omega, .inr (fun z hz => ?_), ?_⟩
    · rw [Nat.add_sub_cancel, hx] at hz
      cases hz
      simp; omega
    · rcases Nat.lt_or_ge (i + 1) l.length with h1 | h1
      · exact .inr (fun z hz => by have := hab (i + 1) z (by omega) hz; simp; omega)
      · exact .inl (by omega)
  obtain ⟨_, g2⟩ := found_end (next := next) h f
  obtain ⟨k1, k2⟩ := g2 x (by omega) (by rw [Nat.add_sub_cancel]; exact hx)
  exact ⟨fun h => k1 h, fun y hy => k2 y hy⟩
theorem end_no {l : List (Int × Int)} (h : EOk l) (e next : Int) (hab : ∀ (j : Nat) y, l[j]? = some y → e < y.1) : endW l e next = (-1, -1) := by
  have f : FoundAt l (fun x => decide (e < x.1)) 0 := by
    refine ⟨by omega, .inl rfl, ?_⟩
    cases hl : l with
    | nil => exact .inl rfl
    | cons z r => exact .inr (fun y hy => by rw [← hl] at hy; have := hab 0 y hy; simp; omega)
  exact (found_end (next := next) h f).1 rfl
end Go.Proofs.YtjggdecjnnpjaaaGreat

/- The document's End, All. -/
namespace Go.Proofs.YtjggdecjnnpjaaaGreat
open Go.RowKit Go.Maps Go.Sort
set_option maxRecDepth 100000
set_option linter.unusedSimpArgs false
set_option linter.unusedVariables false

set_option maxHeartbeats 3200000 in
theorem rend_any {w : World} {U q r name v} {l : List (Int × Int)} (h : RC w U q r name v l) (hk : EOk l) (e next : Int) :
    Calls Tryz.prog 16 #[.pointer (some ⟨q, 0, none⟩), .int .i64 e, .int .i64 next] w fun en w' => en = .returned (.tuple #[.int .i64 (endW l e next).1, .int .i64 (endW l e next).2]) ∧ Below w.heap.size w w' := by
  obtain ⟨oa, cap, rfl, hoa⟩ := h.ents.shape
  obtain ⟨k0, k1, k2⟩ := h.c
  have HEL := hid h.ents
  have HC := hid h
  have HK := hid hk
  have hlen := hk.few
  have hw0 : IntKind.i64.wrap ((l.length : Int) - 1) = (l.length : Int) - 1 := IntWalk.i64_in _ (by omega)
  clear h hk k2 k0 k1
  have HK2 : Hid (∀ W, Below w.heap.size w W → W.cell? ⟨q, 2, none⟩ = some (.slice oa l.length cap)) := fun W hb => (HC.out.under hb).c.2.2
  have k2 := HK2.out w (Below.refl _ _)
  go_enter Tryz.func16, Tryz.ntmps16
  go_wp2_with fail
  go_loopg [8] l.length (fun kx s8 wr => ∃ (k : Nat), k ≤ l.length ∧ k ≤ kx ∧ s8 = .int .i64 ((k : Int) - 1) ∧ Hid (Below w.heap.size w wr ∧ ∀ (j : Nat) y, k ≤ j → l[j]? = some y → e < y.1))
  case atStart => exact ⟨l.length, Nat.le_refl _, Nat.le_refl _, rfl, Below.refl _ _, fun j y hj hy => by have := (List.getElem?_eq_some_iff.1 hy).1; omega⟩
  case round =>
    obtain ⟨k, hkl, hkx, rfl, HI⟩ := hrel
    clear k2
    have k2 := HK2.out _ HI.out.1
    cases k with
    | zero =>
      have HN := hid (end_no HK.out e next (fun j y hy => HI.out.2 j y (by omega) hy))
      go_wp2_with fail
      go_ret2
      exact ⟨by rw [HN.out]; rfl, HI.out.1⟩
    | succ i =>
      have hi1 : (((i + 1 : Nat) : Int) - 1) = (i : Int) := by omega
      have hil : (i : Int) < (l.length : Int) := by omega
      have hi0 : (0 : Int) ≤ (i : Int) := by omega
      obtain ⟨g, rfl⟩ := hoa (by omega)
      have hx : l[i]? = some (l[i]'(by omega)) := List.getElem?_eq_getElem (by omega)
      obtain ⟨r0, r1, r2⟩ := (HEL.out.under HI.out.1).at_ i _ hx
      have HX := hid hx
      clear hx
      generalize (l[i]'(by omega)) = x at *
      rw [hi1]
      clear hi1
      by_cases hxe : e < x.1
      · have hw1 : IntKind.i64.wrap ((i : Int) - 1) = (i : Int) - 1 := IntWalk.i64_in _ (by omega)
        go_wp2_with fail
        go_roundg i
        case measure => omega
        case rel => exact ⟨i, by omega, Nat.le_refl _, by first | rfl | go_num, HI.out.1, fun j y hj hy => by
          rcases Nat.lt_or_ge i j with h1 | h1
          · exact HI.out.2 j y (by omega) hy
          · have : j = i := by omega
            subst this
            rw [HX.out] at hy
            cases hy
            exact hxe⟩
      · obtain ⟨E1, E2⟩ := end_at HK.out e next i x HX.out (by omega) (fun j y hj hy => HI.out.2 j y (by omega) hy)
        have hw2 : IntKind.i64.wrap ((i : Int) + 1) = (i : Int) + 1 := IntWalk.i64_in _ (by omega)
        by_cases hlt : i + 1 < l.length
        · have hlt' : (i : Int) + 1 < (l.length : Int) := by omega
          have hy : l[i + 1]? = some l[i + 1] := List.getElem?_eq_getElem hlt
          have HN := hid (E2 _ hy)
          obtain ⟨v0, v1, v2⟩ := (HEL.out.under HI.out.1).at_ (i + 1) _ hy
          clear E1 E2 hy
          generalize l[i + 1] = y at *
          have hd7 : (0 : Int) ≤ (i : Int) + 1 := by omega
          have hd8 : ((i : Int) + 1).toNat = i + 1 := by omega
          go_wp2_with fail
          go_quiet (fail)
          go_wp2_with fail
          go_ret2
          exact ⟨by rw [HN.out]; rfl, by first | exact HI.out.1 | exact below_drewN HI.out.1 _⟩
        · have hlt' : ¬ (i : Int) + 1 < (l.length : Int) := by omega
          have HN := hid (E1 (by omega))
          clear E1 E2
          go_wp2_with fail
          go_ret2
          exact ⟨by rw [HN.out]; rfl, HI.out.1⟩
end Go.Proofs.YtjggdecjnnpjaaaGreat

