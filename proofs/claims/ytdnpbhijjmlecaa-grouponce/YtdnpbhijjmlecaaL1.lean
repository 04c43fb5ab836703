/- A commit that comes again is not taken: the walk. -/
import Derived.Test.YtdnpbhijjmlecaaG28
import Derived.Deep.CutRange
import Derived.Deep.CutBlock
namespace Go.Proofs.Ytdnpbhijjmlecaa
open Go.RowKit Go.Maps
set_option maxRecDepth 100000
set_option linter.unusedSimpArgs false
set_option linter.unusedVariables false

def gO (last is : Int) : Gr := ⟨1, 1, [⟨1, last⟩], [1, 2], if last < 0 then [] else [(1, is)]⟩
def sO (last is : Int) : Gs := ⟨[([103], gO last is)], 0⟩
theorem once_join : applyI s0 (rcE 1 0 0 0 0 gB [1, 2]) = (sO (-1) (-1), ⟨0, 1, 1, 0, [1, 2]⟩) := by kernel_rfl
theorem once_com (last is n d : Int) (hn : 0 ≤ n ∧ n < 30) (hd : 0 ≤ d ∧ d < 1000) : applyI (sO last is) (rcE 3 1 1 1 d gB [n]) = if last < n then (sO n d, ⟨0, 1, 1, d, []⟩) else (sO last is, ⟨12, 0, 0, 0, []⟩) := by
  have h1 : memE (gO last is) (rcE 3 1 1 1 d gB [n]) = 0 := rfl
  have h2 : offB d = true := by unfold offB; simp; omega
  have h3 : oneB [n] = true := by unfold oneB offB; simp; omega
  have h4 : numOf (gO last is) 1 = last := rfl
  have h5 : ownerI (gO last is) 1 = 1 := by
    unfold ownerI
    show ownFrom (gO last is) 1 0 [⟨1, last⟩] = 1
    unfold ownFrom
    exact if_pos (show hasB (shareL [1, 2] 1 0) 1 = true by decide)
  have hc : comE (gO last is) (rcE 3 1 1 1 d gB [n]) = if n ≤ last then 12 else 0 := by
    unfold comE
    rw [h1, if_neg (by simp)]
    rw [if_neg (by show ¬ (offB d = false ∨ oneB [n] = false); rw [h2, h3]; simp)]
    show (if n ≤ numOf (gO last is) 1 then 12 else if ownerI (gO last is) 1 ≠ 1 then 19 else 0) = _
    rw [h4, h5]
    simp
  have ha : applyI (sO last is) (rcE 3 1 1 1 d gB [n]) = (⟨setG (sO last is).gs [103] (commitI (gO last is) (rcE 3 1 1 1 d gB [n])).1, 0⟩, (commitI (gO last is) (rcE 3 1 1 1 d gB [n])).2) := rfl
  rw [ha]
  unfold commitI
  rw [hc]
  by_cases hl : last < n
  · rw [if_pos hl, if_neg (show ¬ n ≤ last by omega)]
    simp only [ne_eq, not_true_eq_false, if_false]
    have hp : putO (gO last is).offs 1 d = [(1, d)] := by
      unfold gO
      by_cases h0 : last < 0
      · simp only [h0, if_true]; rfl
      · simp only [h0, if_false]; rfl
    have hg : gO n d = ⟨1, 1, [⟨1, n⟩], [1, 2], [(1, d)]⟩ := by unfold gO; rw [if_neg (by omega)]
    show ((⟨setG [([103], gO last is)] [103] ⟨1, 1, [⟨1, n⟩], [1, 2], putO (gO last is).offs 1 d⟩, 0⟩ : Gs), _) = _
    rw [hp]
    unfold sO
    rw [hg]
    rfl
  · rw [if_neg hl, if_pos (show n ≤ last by omega)]
    simp only [ne_eq, show ¬ (12 : Int) = 0 by omega, not_false_eq_true, if_true]
    rfl
theorem once_off (last is : Int) (h : last < 0 → is = -1) : offI (foundG (sO last is).gs [103]) 1 = is := by
  show offI (gO last is) 1 = is
  unfold gO offI
  by_cases h0 : last < 0
  · simp only [h0, if_true]
    rw [h h0]; rfl
  · simp only [h0, if_false]
    rfl
set_option maxHeartbeats 6400000 in
theorem once_walk {w : World} {v u : Value} {ns os : List Int} (hn : IL w v ns) (ho : IL w u os) : Calls Try.prog 6 #[v, u] w fun e w' => e = .returned (.bool true) ∧ Below w.heap.size w w' := by
  have HSH := hid (shown_any w)
  have HN := hid hn
  have HO := hid ho
  obtain ⟨⟨na, nc, rfl, _⟩, _⟩ := hn
  obtain ⟨⟨oa, oc, rfl, _⟩, _⟩ := ho
  have HNA := hid HN.out.shape
  have hnf := HN.out.few
  have hof := HO.out.few
  go_enter Try.func6, Try.ntmps6
  go_wp2_with fail
  refine HSH.out.mono ?_
  rintro e W1 ⟨rfl, hbs⟩
  have HBS := hid hbs
  clear hbs HSH
  have HNEW := hid (IS.new (w := W1))
  go_wp2_with fail
  refine HNEW.out.mono ?_
  rintro e W0 ⟨q, rfl, hi0⟩
  have HS0 : Hid (SH W1 W0 q s0 0 [] []) := ⟨_, hi0, (fun p hp => by cases hp), (fun p hp => by cases hp)⟩
  clear hi0 HNEW
  unfold ptr
  have HLT : Hid (SH W1 (W0.alloc (.cells #[.int .i64 1, .int .i64 2] 3)) q s0 0 [] [(.slice (some ⟨W0.heap.size, 0, none⟩) 2 2, [1, 2])]) := HS0.out.lit [1, 2] (fun x hx => sm _ (by simp at hx; omega)) (by simp)
  have HC0 := hid (SH.call HLT.out (by omega) (rcE 1 0 0 0 0 gB [1, 2]) (rcE_ok _ _ _ _ _ _ _ (by omega)) gB_le (some ⟨W0.heap.size, 0, none⟩) 2 (.inr (List.mem_cons_self ..)) (t := ⟨0, 1, 1, 0, [1, 2]⟩) once_join)
  go_wp2_with fail
  refine HC0.out.mono ?_
  rintro e w1 ⟨a1, c1, rfl, _, hs1⟩
  have HT1 := hid hs1
  clear hs1 HC0 HS0 HLT
  unfold toldA at HT1 ⊢
  go_upto_region 6 with fail
  have HB1 : Hid (SH W1 (w1.alloc (.cells #[.int .i64 0, .int .i64 1, .int .i64 1, .int .i64 0, .slice a1 2 c1] 36)) q (sO (-1) (-1)) 1 [(w1.heap.size, #[.int .i64 0, .int .i64 1, .int .i64 1, .int .i64 0, .slice a1 2 c1])] []) := SH.sub HT1.out (fun p hp => hp) (fun p hp => by cases hp)
  clear HT1
  obtain ⟨B, hB⟩ : ∃ B, B = w1.heap.size := ⟨_, rfl⟩
  rw [← hB] at HB1 ⊢
  generalize w1.alloc (.cells #[.int .i64 0, .int .i64 1, .int .i64 1, .int .i64 0, .slice a1 2 c1] 36) = V1 at *
  clear hB
  go_wp2_with fail
  go_loopg [8, 9, 10] 60 (fun kx s8 s9 s10 wr => ∃ (k : Nat) (last is : Int), k ≤ 60 ∧ 60 - k ≤ kx ∧ s10 = .int .i64 (k : Int) ∧ s8 = .int .i64 last ∧ s9 = .int .i64 is ∧ -1 ≤ last ∧ last < 30 ∧ -1 ≤ is ∧ is < 1000 ∧ Hid ((last < 0 → is = -1) ∧ SH W1 wr q (sO last is) (k + 1) [(B, #[.int .i64 0, .int .i64 1, .int .i64 1, .int .i64 0, .slice a1 2 c1])] []))
  case atStart => exact ⟨0, -1, -1, by omega, by omega, rfl, rfl, rfl, by omega, by omega, by omega, by omega, fun _ => rfl, HB1.out⟩
  case round =>
    obtain ⟨k, last, is, hk, hkx, rfl, rfl, rfl, hl1, hl2, hi1, hi2, HR⟩ := hrel
    clear HB1
    have HBK := hid HR.out.2.below
    by_cases hlt : k < ns.length ∧ k < os.length ∧ k < 60
    · obtain ⟨hk1, hk2, hk3⟩ := hlt
      have hk1' : (k : Int) < (ns.length : Int) := by omega
      have hk2' : (k : Int) < (os.length : Int) := by omega
      have hk3' : (k : Int) < 60 := by omega
      have hBW : Below w.heap.size w wr := HBS.out.trans (HBK.out.mono HBS.out.size)
      have hnel : ns ≠ [] := by intro e; rw [e] at hk1; simp at hk1
      have hoel : os ≠ [] := by intro e; rw [e] at hk2; simp at hk2
      have hnc : ∃ b o, na = some ⟨b, o, none⟩ ∧ wr.cell? ⟨b, o + k, none⟩ = some (.int .i64 ns[k]) := by
        obtain ⟨⟨a', c', e', _, _, _, hat⟩, _⟩ := HN.out
        simp only [Value.slice.injEq] at e'
        obtain ⟨b, o, e2, _, hc⟩ := hat hnel
        exact ⟨b, o, e'.1.trans e2, kept_cell hBW (hc k hk1)⟩
      have hoc : ∃ b o, oa = some ⟨b, o, none⟩ ∧ wr.cell? ⟨b, o + k, none⟩ = some (.int .i64 os[k]) := by
        obtain ⟨⟨a', c', e', _, _, _, hat⟩, _⟩ := HO.out
        simp only [Value.slice.injEq] at e'
        obtain ⟨b, o, e2, _, hc⟩ := hat hoel
        exact ⟨b, o, e'.1.trans e2, kept_cell hBW (hc k hk2)⟩
      obtain ⟨nb, no, rfl, hnc⟩ := hnc
      obtain ⟨ob, oo, rfl, hoc⟩ := hoc
      have hn64 := HN.out.ok ns[k] (by simp)
      have ho64 := HO.out.ok os[k] (by simp)
      have HP1 := hid (pick_any ns[k] 30 wr hn64 (by omega) (by omega))
      have HP2 := hid (pick_any os[k] 1000 wr ho64 (by omega) (by omega))
      have hr1 := pickI_range ns[k] 30 (by omega)
      have hr2 := pickI_range os[k] 1000 (by omega)
      generalize ns[k] = xn at *
      generalize os[k] = xo at *
      generalize pickI xn 30 = n at *
      generalize pickI xo 1000 = d at *
      obtain ⟨hr1a, hr1b⟩ := hr1
      obtain ⟨hr2a, hr2b⟩ := hr2
      have t1 := cell_blk (HR.out.2.boxAt 0 (k := B) rfl) 1 _ rfl
      have t2 := cell_blk (HR.out.2.boxAt 0 (k := B) rfl) 2 _ rfl
      have HLT : Hid (SH W1 (wr.alloc (.cells #[.int .i64 n] 3)) q (sO last is) (k + 1) [(B, #[.int .i64 0, .int .i64 1, .int .i64 1, .int .i64 0, .slice a1 2 c1])] [(.slice (some ⟨wr.heap.size, 0, none⟩) 1 1, [n])]) := HR.out.2.lit [n] (fun x hx => sm _ (by simp at hx; omega)) (by simp)
      have hcom := once_com last is n d ⟨hr1a, hr1b⟩ ⟨hr2a, hr2b⟩
      have HOF : Hid (∀ V S N bs ls, SH W1 V q S N bs ls → Calls Try.prog 21 #[.pointer (some ⟨q, 0, none⟩), .string gB, .int .i64 1] V fun e w' => e = .returned (.int .i64 (offI (foundG S.gs [103]) 1)) ∧ Below V.heap.size V w') := fun V S N bs ls hs => by
        obtain ⟨X, hx⟩ := hs.is
        exact hx.offset gB gB_le 1 (sm _ (by omega))
      unfold gB at HOF
      by_cases hgt : last < n
      · rw [if_pos hgt] at hcom
        have HC := hid (SH.call HLT.out (by omega) (rcE 3 1 1 1 d gB [n]) (rcE_ok _ _ _ _ _ _ _ (by omega)) gB_le (some ⟨wr.heap.size, 0, none⟩) 1 (.inr (List.mem_cons_self ..)) (t := ⟨0, 1, 1, d, []⟩) hcom)
        clear hcom HLT HR
        go_wp2_with fail
        refine HP1.out.mono ?_
        rintro e w2 ⟨rfl, rfl⟩
        go_wp2_with fail
        refine HP2.out.mono ?_
        rintro e w3 ⟨rfl, rfl⟩
        go_wp2_with fail
        refine HC.out.mono ?_
        rintro e w4 ⟨a4, c4, rfl, _, hs4⟩
        have HS4 := hid hs4
        clear hs4 HC hnc hoc t1 t2 HP1 HP2
        unfold toldA at HS4 ⊢
        go_upto_region 14 with fail
        obtain ⟨U, hU⟩ : ∃ U, U = w4.heap.size := ⟨_, rfl⟩
        have HS4a : Hid (SH W1 (w4.alloc (.cells #[.int .i64 0, .int .i64 1, .int .i64 1, .int .i64 d, .slice a4 0 c4] 36)) q (sO n d) (k + 1 + 1) [(w4.heap.size, #[.int .i64 0, .int .i64 1, .int .i64 1, .int .i64 d, .slice a4 0 c4]), (B, #[.int .i64 0, .int .i64 1, .int .i64 1, .int .i64 0, .slice a1 2 c1])] []) := SH.sub HS4.out (fun p hp => hp) (fun p hp => by cases hp)
        clear HS4
        have HS4 := HS4a
        clear HS4a
        rw [← hU] at HS4 ⊢
        generalize w4.alloc (.cells #[.int .i64 0, .int .i64 1, .int .i64 1, .int .i64 d, .slice a4 0 c4] 36) = V4 at *
        clear hU
        have u0 := cell_blk (HS4.out.boxAt 0 (k := U) rfl) 0 _ rfl
        have HOC := hid (HOF.out V4 _ _ _ _ HS4.out)
        rw [once_off n d (fun h => by omega)] at HOC
        go_wp2_with fail
        refine HOC.out.mono ?_
        rintro e w5 ⟨rfl, hb5⟩
        have HS5 : Hid (SH W1 w5 q (sO n d) (k + 1 + 1) [(B, #[.int .i64 0, .int .i64 1, .int .i64 1, .int .i64 0, .slice a1 2 c1])] []) := (HS4.out.under hb5).sub (fun p hp => List.mem_cons_of_mem _ hp) (fun p hp => by cases hp)
        clear hb5 HS4 u0 HOC HOF
        go_wp2_with fail
        go_roundg (60 - (k + 1))
        case measure => omega
        case rel => exact ⟨k + 1, n, d, by omega, Nat.le_refl _, by go_num, rfl, rfl, by omega, by omega, by omega, by omega, fun h => by omega, HS5.out⟩
      · rw [if_neg hgt] at hcom
        have HC := hid (SH.call HLT.out (by omega) (rcE 3 1 1 1 d gB [n]) (rcE_ok _ _ _ _ _ _ _ (by omega)) gB_le (some ⟨wr.heap.size, 0, none⟩) 1 (.inr (List.mem_cons_self ..)) (t := ⟨12, 0, 0, 0, []⟩) hcom)
        have HII := hid HR.out.1
        clear hcom HLT HR
        go_wp2_with fail
        refine HP1.out.mono ?_
        rintro e w2 ⟨rfl, rfl⟩
        go_wp2_with fail
        refine HP2.out.mono ?_
        rintro e w3 ⟨rfl, rfl⟩
        go_wp2_with fail
        refine HC.out.mono ?_
        rintro e w4 ⟨a4, c4, rfl, _, hs4⟩
        have HS4 := hid hs4
        clear hs4 HC hnc hoc t1 t2 HP1 HP2
        unfold toldA at HS4 ⊢
        go_upto_region 14 with fail
        obtain ⟨U, hU⟩ : ∃ U, U = w4.heap.size := ⟨_, rfl⟩
        have HS4a : Hid (SH W1 (w4.alloc (.cells #[.int .i64 12, .int .i64 0, .int .i64 0, .int .i64 0, .slice a4 0 c4] 36)) q (sO last is) (k + 1 + 1) [(w4.heap.size, #[.int .i64 12, .int .i64 0, .int .i64 0, .int .i64 0, .slice a4 0 c4]), (B, #[.int .i64 0, .int .i64 1, .int .i64 1, .int .i64 0, .slice a1 2 c1])] []) := SH.sub HS4.out (fun p hp => hp) (fun p hp => by cases hp)
        clear HS4
        have HS4 := HS4a
        clear HS4a
        rw [← hU] at HS4 ⊢
        generalize w4.alloc (.cells #[.int .i64 12, .int .i64 0, .int .i64 0, .int .i64 0, .slice a4 0 c4] 36) = V4 at *
        clear hU
        have u0 := cell_blk (HS4.out.boxAt 0 (k := U) rfl) 0 _ rfl
        have HOC := hid (HOF.out V4 _ _ _ _ HS4.out)
        rw [once_off last is HII.out] at HOC
        go_wp2_with fail
        refine HOC.out.mono ?_
        rintro e w5 ⟨rfl, hb5⟩
        have HS5 : Hid (SH W1 w5 q (sO last is) (k + 1 + 1) [(B, #[.int .i64 0, .int .i64 1, .int .i64 1, .int .i64 0, .slice a1 2 c1])] []) := (HS4.out.under hb5).sub (fun p hp => List.mem_cons_of_mem _ hp) (fun p hp => by cases hp)
        clear hb5 HS4 u0 HOC HOF
        go_wp2_with fail
        go_roundg (60 - (k + 1))
        case measure => omega
        case rel => exact ⟨k + 1, last, is, by omega, Nat.le_refl _, by go_num, rfl, rfl, by omega, by omega, by omega, by omega, HII.out, HS5.out⟩
    · by_cases hk1 : k < ns.length
      · have hk1' : (k : Int) < (ns.length : Int) := by omega
        by_cases hk2 : k < os.length
        · have hk2' : (k : Int) < (os.length : Int) := by omega
          have hk3' : ¬ (k : Int) < 60 := fun h => hlt ⟨hk1, hk2, by omega⟩
          clear hlt
          go_wp2_with fail
          go_ret
          exact ⟨rfl, HBS.out.trans (HBK.out.mono HBS.out.size)⟩
        · have hk2' : ¬ (k : Int) < (os.length : Int) := by omega
          clear hlt
          go_wp2_with fail
          go_ret
          exact ⟨rfl, HBS.out.trans (HBK.out.mono HBS.out.size)⟩
      · have hk1' : ¬ (k : Int) < (ns.length : Int) := by omega
        clear hlt
        go_wp2_with fail
        go_ret
        exact ⟨rfl, HBS.out.trans (HBK.out.mono HBS.out.size)⟩
end Go.Proofs.Ytdnpbhijjmlecaa
