/- What is done in one group changes no other: the walk. -/
import Derived.Test.YtdnpbhijjmlecaaG28
import Derived.Test.YtdnpbhijjmlecaaSc
import Derived.Deep.CutRange
import Derived.Deep.CutBlock
namespace Go.Proofs.Ytdnpbhijjmlecaa
open Go.RowKit Go.Maps
set_option maxRecDepth 100000
set_option linter.unusedSimpArgs false
set_option linter.unusedVariables false

def mB : ByteArray := ⟨#[109, 105, 110, 101]⟩
def mK : List UInt8 := [109, 105, 110, 101]
def gM : Gr := ⟨1, 1, [⟨1, 0⟩], [1, 2], [(2, 5)]⟩
theorem mB_le : mB.size ≤ maxLen := by unfold maxLen; decide
def sM0 : Gs := ⟨[(mK, ⟨1, 1, [⟨1, -1⟩], [1, 2], []⟩)], 0⟩
def sM : Gs := ⟨[(mK, gM)], 0⟩
theorem mine_join : applyI s0 (rcE 1 0 0 0 0 mB [1, 2]) = (sM0, ⟨0, 1, 1, 0, [1, 2]⟩) := by kernel_rfl
theorem mine_com : applyI sM0 (rcE 3 1 1 2 5 mB [0]) = (sM, ⟨0, 1, 1, 5, []⟩) := by kernel_rfl
theorem apply_other (S : Gs) (m : Rc) (n : List UInt8) (h : m.key ≠ n) : getG (applyI S m).1.gs n = getG S.gs n := by
  unfold applyI
  split
  · unfold joinI
    split
    · rfl
    · show getG (putG S.gs m.key _) n = _
      rw [get_putG, if_neg h]
  · split
    · unfold askI
      cases hg : getG S.gs m.key with
      | none => rfl
      | some x =>
        show getG (setG S.gs m.key _) n = _
        rw [get_setG, if_neg h]
    · split
      · unfold epochI
        split <;> rfl
      · rfl
theorem mB_list : mB.toList = [109, 105, 110, 101] := by kernel_rfl
theorem key_ne {s : ByteArray} (h : ¬ s.toList = [109, 105, 110, 101]) : s.data.toList ≠ mK := fun e => by
  have : s = mB := by
    obtain ⟨⟨l⟩⟩ := s
    have e2 : l = [109, 105, 110, 101] := e
    subst e2
    rfl
  rw [this] at h
  exact h mB_list
theorem found_of {S : Gs} {n : List UInt8} {x : Gr} (h : getG S.gs n = some x) : foundG S.gs n = x := by unfold foundG; rw [h]; rfl
theorem own1 : ownerI gM 1 = 1 := by kernel_rfl
set_option maxHeartbeats 6400000 in
theorem apart_walk {w : World} {v : Value} {ops : List Rc} (h : Script w v ops) : Calls Try.prog 7 #[v] w fun e w' => e = .returned (.bool true) ∧ Below w.heap.size w w' := by
  have HSH := hid (shown_any w)
  have HO := hid h
  obtain ⟨⟨sa, sc, rfl, hsc⟩, hlen⟩ := h
  have HSC := hid hsc
  have hlen' : (ops.length : Int) ≤ 9223372036854775807 := by unfold maxLen at hlen; omega
  clear hsc
  go_enter Try.func7, Try.ntmps7
  go_wp2_with fail
  refine HSH.out.mono ?_
  rintro e W1 ⟨rfl, hbs⟩
  have HBS := hid hbs
  clear hbs HSH
  have HNEW := hid (IS.new (w := W1))
  go_wp2_with fail
  refine HNEW.out.mono ?_
  rintro e W0 ⟨q, rfl, hi0⟩
  have HS0 : Hid (SH W1 W0 q s0 0 [] []) := ⟨_, hi0, (fun p hp => by cases hp), (fun p hp => by cases hp)⟩
  clear hi0 HNEW
  unfold ptr
  have HLT : Hid (SH W1 (W0.alloc (.cells #[.int .i64 1, .int .i64 2] 3)) q s0 0 [] [(.slice (some ⟨W0.heap.size, 0, none⟩) 2 2, [1, 2])]) := HS0.out.lit [1, 2] (fun x hx => sm _ (by simp at hx; omega)) (by simp)
  have HC0 := hid (SH.call HLT.out (by omega) (rcE 1 0 0 0 0 mB [1, 2]) (rcE_ok _ _ _ _ _ _ _ (by omega)) mB_le (some ⟨W0.heap.size, 0, none⟩) 2 (.inr (List.mem_cons_self ..)) (t := ⟨0, 1, 1, 0, [1, 2]⟩) mine_join)
  go_wp2_with fail
  refine HC0.out.mono ?_
  rintro e w1 ⟨a1, c1, rfl, _, hs1⟩
  have HT1 := hid hs1
  clear hs1 HC0 HS0 HLT
  unfold toldA at HT1 ⊢
  go_upto_region 6 with fail
  have HB1 : Hid (SH W1 (w1.alloc (.cells #[.int .i64 0, .int .i64 1, .int .i64 1, .int .i64 0, .slice a1 2 c1] 36)) q sM0 1 [(w1.heap.size, #[.int .i64 0, .int .i64 1, .int .i64 1, .int .i64 0, .slice a1 2 c1])] []) := SH.sub HT1.out (fun p hp => hp) (fun p hp => by cases hp)
  clear HT1
  obtain ⟨B, hB⟩ : ∃ B, B = w1.heap.size := ⟨_, rfl⟩
  rw [← hB] at HB1 ⊢
  generalize w1.alloc (.cells #[.int .i64 0, .int .i64 1, .int .i64 1, .int .i64 0, .slice a1 2 c1] 36) = V1 at *
  clear hB
  have t1 := cell_blk (HB1.out.boxAt 0 (k := B) rfl) 1 _ rfl
  have t2 := cell_blk (HB1.out.boxAt 0 (k := B) rfl) 2 _ rfl
  have HLU : Hid (SH W1 (V1.alloc (.cells #[.int .i64 0] 3)) q sM0 1 [(B, #[.int .i64 0, .int .i64 1, .int .i64 1, .int .i64 0, .slice a1 2 c1])] [(.slice (some ⟨V1.heap.size, 0, none⟩) 1 1, [0])]) := HB1.out.lit [0] (fun x hx => sm _ (by simp at hx; omega)) (by simp)
  have HC1 := hid (SH.call HLU.out (by omega) (rcE 3 1 1 2 5 mB [0]) (rcE_ok _ _ _ _ _ _ _ (by omega)) mB_le (some ⟨V1.heap.size, 0, none⟩) 1 (.inr (List.mem_cons_self ..)) (t := ⟨0, 1, 1, 5, []⟩) mine_com)
  go_wp2_with fail
  refine HC1.out.mono ?_
  rintro e w2 ⟨a2, c2, rfl, _, hs2⟩
  have HT2 := hid hs2
  clear hs2 HC1 HB1 HLU t1 t2
  unfold toldA at HT2 ⊢
  go_upto_region 7 with fail
  have HB2 : Hid (SH W1 (w2.alloc (.cells #[.int .i64 0, .int .i64 1, .int .i64 1, .int .i64 5, .slice a2 0 c2] 36)) q sM 2 [(w2.heap.size, #[.int .i64 0, .int .i64 1, .int .i64 1, .int .i64 5, .slice a2 0 c2]), (B, #[.int .i64 0, .int .i64 1, .int .i64 1, .int .i64 0, .slice a1 2 c1])] []) := SH.sub HT2.out (fun p hp => hp) (fun p hp => by cases hp)
  clear HT2
  obtain ⟨U, hU⟩ : ∃ U, U = w2.heap.size := ⟨_, rfl⟩
  rw [← hU] at HB2 ⊢
  generalize w2.alloc (.cells #[.int .i64 0, .int .i64 1, .int .i64 1, .int .i64 5, .slice a2 0 c2] 36) = V2 at *
  clear hU
  have t0 := cell_blk (HB2.out.boxAt 1 (k := B) rfl) 0 _ rfl
  have u0 := cell_blk (HB2.out.boxAt 0 (k := U) rfl) 0 _ rfl
  have HB3 : Hid (SH W1 V2 q sM 2 [(B, #[.int .i64 0, .int .i64 1, .int .i64 1, .int .i64 0, .slice a1 2 c1])] []) := HB2.out.sub (fun p hp => List.mem_cons_of_mem _ hp) (fun p hp => hp)
  clear HB2
  go_wp2_with fail
  go_loopg [7] 100 (fun kx s7 wr => ∃ (k : Nat) (S : Gs), k ≤ 100 ∧ 100 - k ≤ kx ∧ s7 = .int .i64 (k : Int) ∧ Hid (getG S.gs mK = some gM ∧ ∃ N, N ≤ k + 2 ∧ SH W1 wr q S N [(B, #[.int .i64 0, .int .i64 1, .int .i64 1, .int .i64 0, .slice a1 2 c1])] []))
  case atStart => exact ⟨0, sM, by omega, by omega, rfl, rfl, 2, by omega, HB3.out⟩
  case round =>
    obtain ⟨k, S, hk, hkx, rfl, HR⟩ := hrel
    clear HB3 t0 u0
    obtain ⟨hG, N, hN, hS⟩ := HR.out
    have HG := hid hG
    have HS := hid hS
    have HBK := hid hS.below
    clear HR hG hS
    by_cases hlt : k < ops.length ∧ k < 100
    · obtain ⟨hk1, hk3⟩ := hlt
      have hk1' : (k : Int) < (ops.length : Int) := by omega
      have hk3' : (k : Int) < 100 := by omega
      have hnel : ops ≠ [] := by intro e; rw [e] at hk1; simp at hk1
      obtain ⟨b, off, rfl, hc⟩ := HSC.out hnel
      have hBW : Below w.heap.size w wr := HBS.out.trans (HBK.out.mono HBS.out.size)
      obtain ⟨la, lc, r0, r1, r2, r3, r4, r5, r6, r7, hil, hrok, hnsz⟩ := (hc k hk1).under hBW
      obtain ⟨_, _, _, _, _, _, _, _, _, e7, hil0, _⟩ := hc k hk1
      have HIL : Hid (IL w (.slice la ops[k].list.length lc) ops[k].list) := by
        have := kept_cell hBW e7
        rw [r7] at this
        injection this with this
        rw [this]
        exact hil0
      have HRO := hid hrok
      have hlf := hil.few
      clear hc hil e7 hil0 hrok
      generalize ops[k] = m at *
      by_cases hbn : m.name.toList = [109, 105, 110, 101]
      · have hbn' : (m.name.toList == [109, 105, 110, 101]) = true := by rw [hbn]; rfl
        go_wp2_with fail
        go_roundg (100 - (k + 1))
        case measure => omega
        case rel => exact ⟨k + 1, S, by omega, Nat.le_refl _, by go_num, HG.out, N, by omega, HS.out⟩
      · have HBN := hid hbn
        have hbn' : (m.name.toList == [109, 105, 110, 101]) = false := by simpa using hbn
        by_cases h40 : 40 < m.list.length
        · have h40' : (40 : Int) < (m.list.length : Int) := by omega
          go_wp2_with fail
          go_roundg (100 - (k + 1))
          case measure => omega
          case rel => exact ⟨k + 1, S, by omega, Nat.le_refl _, by go_num, HG.out, N, by omega, HS.out⟩
        · have h40' : ¬ (40 : Int) < (m.list.length : Int) := by omega
          have hkey : m.key ≠ mK := key_ne HBN.out
          have HGN : Hid (getG (applyI S m).1.gs mK = some gM) := by show _ = _; rw [apply_other S m mK hkey]; exact HG.out
          have HC := hid (SH.call (S' := (applyI S m).1) (t := (applyI S m).2) (HS.out.old (HIL.out.under HBS.out)) (by omega) m HRO.out hnsz la lc (.inr (List.mem_cons_self ..)) rfl)
          generalize (applyI S m).1 = S2 at *
          generalize (applyI S m).2 = T at *
          unfold recV toldA at HC
          clear hkey HS HG
          go_upto_region 14 with (go_at_call 12; refine HC.out.mono ?_; rintro e w5 ⟨a5, c5, rfl, hs5, _⟩; have HS5 := hid hs5; clear hs5)
          clear r0 r1 r2 r3 r4 r5 r6 r7 HC hbn hbn'
          have HS6 : Hid (SH W1 w5 q S2 (N + 1) [(B, #[.int .i64 0, .int .i64 1, .int .i64 1, .int .i64 0, .slice a1 2 c1])] []) := HS5.out.sub (fun p hp => hp) (fun p hp => by cases hp)
          clear HS5
          have t1 := cell_blk (HS6.out.boxAt 0 (k := B) rfl) 1 _ rfl
          have hBl := (Array.getElem?_eq_some_iff.1 (HS6.out.boxAt 0 (k := B) rfl)).1
          have hfd := found_of HGN.out
          have HMB : Hid (∀ V, Below w5.heap.size w5 V → Calls Try.prog 22 #[.pointer (some ⟨q, 0, none⟩), .string mB] V fun e w' => ∃ a c, e = .returned (.slice a 1 c) ∧ IL w' (.slice a 1 c) [1] ∧ Below V.heap.size V w') := fun V hV => by
            obtain ⟨X, hx⟩ := (HS6.out.under hV).is
            refine (hx.members mB mB_le).mono ?_
            rintro e w' ⟨a, c, rfl, h1, _, h3⟩
            rw [show mB.data.toList = mK from rfl, hfd] at h1 ⊢
            exact ⟨a, c, rfl, h1, h3⟩
          have HGE : Hid (∀ V, Below w5.heap.size w5 V → Calls Try.prog 18 #[.pointer (some ⟨q, 0, none⟩), .string mB] V fun e w' => e = .returned (.int .i64 1) ∧ Below V.heap.size V w') := fun V hV => by
            obtain ⟨X, hx⟩ := (HS6.out.under hV).is
            have := hx.gen mB mB_le
            rw [show mB.data.toList = mK from rfl, hfd] at this
            exact this
          have HOF : Hid (∀ V, Below w5.heap.size w5 V → Calls Try.prog 21 #[.pointer (some ⟨q, 0, none⟩), .string mB, .int .i64 2] V fun e w' => e = .returned (.int .i64 5) ∧ Below V.heap.size V w') := fun V hV => by
            obtain ⟨X, hx⟩ := (HS6.out.under hV).is
            have := hx.offset mB mB_le 2 (sm _ (by omega))
            rw [show mB.data.toList = mK from rfl, hfd] at this
            exact this
          have HOW : Hid (∀ V, Below w5.heap.size w5 V → Calls Try.prog 20 #[.pointer (some ⟨q, 0, none⟩), .string mB, .int .i64 1] V fun e w' => e = .returned (.int .i64 1) ∧ Below V.heap.size V w') := fun V hV => by
            obtain ⟨X, hx⟩ := (HS6.out.under hV).is
            have := hx.owner mB mB_le 1 (sm _ (by omega))
            rw [show mB.data.toList = mK from rfl, hfd, own1] at this
            exact this
          have HLIT : Hid (∀ V : World, IL (V.alloc (.cells #[.int .i64 1] 3)) (.slice (some ⟨V.heap.size, 0, none⟩) 1 1) [1]) := fun V => il_lit [1] (heap_alloc_new V _) (fun x hx => sm _ (by simp at hx; omega)) (by simp)
          have HSL : Hid (∀ V x y, IL V x [1] → IL V y [1] → Calls Try.prog 17 #[x, y] V fun e w' => e = .returned (.bool true) ∧ Below V.heap.size V w') := fun V x y h1 h2 => by
            have := sameList_any h1 h2
            rw [show (decide (([1] : List Int) = [1])) = true by decide] at this
            exact this
          have HTB : Hid (∀ V, Below w5.heap.size w5 V → V.cell? ⟨B, 1, none⟩ = some (.int .i64 1)) := fun V hV => kept_cell hV t1
          have HT2 : Hid (∀ V, Below w5.heap.size w5 V → V.cell? ⟨B, 2, none⟩ = some (.int .i64 1)) := fun V hV => kept_cell hV (cell_blk (HS6.out.boxAt 0 (k := B) rfl) 2 _ rfl)
          have hB0 : Below w5.heap.size w5 w5 := Below.refl _ _
          have hB0d : Below w5.heap.size w5 w5.drew := hB0.drew
          unfold mB at HMB HGE HOF HOW
          clear hfd
          go_wp2_with fail
          go_region_with
            (first
              | (go_at_call 22; refine (HMB.out _ (by first | assumption | exact hB0d.alloc (Nat.le_refl _) _ | exact hB0.alloc (Nat.le_refl _) _ | exact (hB0.alloc (Nat.le_refl _) _).drew)).mono ?_; rintro e w6 ⟨a6, c6, rfl, hi6, hb6⟩; have HI6 := hid hi6; have hB6 := (by first | assumption | exact hB0d.alloc (Nat.le_refl _) _ | exact hB0.alloc (Nat.le_refl _) _ | exact (hB0.alloc (Nat.le_refl _) _).drew : Below w5.heap.size w5 _).trans (hb6.mono (by first | assumption | exact hB0d.alloc (Nat.le_refl _) _ | exact hB0.alloc (Nat.le_refl _) _ | exact (hB0.alloc (Nat.le_refl _) _).drew : Below w5.heap.size w5 _).size); have tb6 := HTB.out w6 hB6; first | (have HL6 := hid ((HLIT.out _).under hb6)) | (have HL6 := hid (((HLIT.out _).under (Below.refl _ _).drew).under hb6)) | skip)
              | (go_at_call 17; refine (HSL.out _ _ _ (by first | exact HI6.out | exact HI6.out.under ((Below.refl _ _).alloc (Nat.le_refl _) _)) (by first | exact HL6.out | exact HLIT.out _)).mono ?_; rintro e w7 ⟨rfl, hb7⟩; have hB7 := (by first | assumption | exact hB6.alloc hB6.size _ : Below w5.heap.size w5 _).trans (hb7.mono (by first | assumption | exact hB6.alloc hB6.size _ : Below w5.heap.size w5 _).size))
              | fail)
          all_goals
            have tc1 := HTB.out w7 hB7
            have tc2 := HT2.out w7 hB7
            go_wp2_with fail
            go_region_held3 (fun V => V.cell? ⟨B, 1, none⟩ = some (.int .i64 1) ∧ V.cell? ⟨B, 2, none⟩ = some (.int .i64 1)) (first | assumption | go_keep) (first
              | (go_at_call 18; refine (HGE.out _ (by first | exact hB7 | exact hB7.drew : Below w5.heap.size w5 _)).mono ?_; rintro e w8 ⟨rfl, hb8⟩; have hB8 := (by first | exact hB7 | exact hB7.drew : Below w5.heap.size w5 _).trans (hb8.mono (by first | exact hB7 | exact hB7.drew : Below w5.heap.size w5 _).size); have tb8 := HT2.out w8 hB8; have tbb8 := HTB.out w8 hB8)
              | (go_at_call 21; refine (HOF.out _ hB8).mono ?_; rintro e w9 ⟨rfl, hb9⟩; have hB9 := hB8.trans (hb9.mono hB8.size); have tb9 := HTB.out w9 hB9; have tbb9 := HT2.out w9 hB9)
              | (go_at_call 20; refine (HOW.out _ hB9).mono ?_; rintro e w10 ⟨rfl, hb10⟩; have hB10 := hB9.trans (hb10.mono hB9.size); have tb10 := HTB.out w10 hB10; have tbb10 := HT2.out w10 hB10)
              | fail)
            go_wp2_with fail
            go_roundg (100 - (k + 1))
            case measure => omega
            case rel => exact ⟨k + 1, S2, by omega, Nat.le_refl _, by go_num, HGN.out, N + 1, by omega, HS6.out.under hB10⟩
    · by_cases hk1 : k < ops.length
      · have hk1' : (k : Int) < (ops.length : Int) := by omega
        have hk3' : ¬ (k : Int) < 100 := fun h => hlt ⟨hk1, by omega⟩
        clear hlt
        go_wp2_with fail
        go_ret
        exact ⟨rfl, HBS.out.trans (HBK.out.mono HBS.out.size)⟩
      · have hk1' : ¬ (k : Int) < (ops.length : Int) := by omega
        clear hlt
        go_wp2_with fail
        go_ret
        exact ⟨rfl, HBS.out.trans (HBK.out.mono HBS.out.size)⟩
end Go.Proofs.Ytdnpbhijjmlecaa
