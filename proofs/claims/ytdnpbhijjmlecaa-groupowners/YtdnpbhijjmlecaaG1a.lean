/- sameList, pick. -/
import Derived.Test.YtdnpbhijjmlecaaG1
import Derived.WalkKit
import Derived.WalkSpells
import Derived.WalkLawsBesides
import Derived.Deep.LoopGhost
import Derived.Maps.AppendAt
import Derived.Maps.Range
import Derived.Deep.QuietTactic
import Derived.BigQuiet
import Derived.Lib.SliceRun
import Derived.Laws.AppendOwnNone
namespace Go.Proofs.Ytdnpbhijjmlecaa
open Go.RowKit Go.Maps
set_option linter.unusedSimpArgs false
set_option linter.unusedVariables false
set_option maxRecDepth 100000

theorem below_drewN {B : Nat} {w w' : World} (h : Below B w w') (n : Nat) : Below B w (w'.drewN n) := by
  induction n with
  | zero => exact h
  | succ n ih => exact ih.drew
theorem take_eq_snoc {l m : List Int} {k : Nat} (h : l.take k = m.take k) (hl : k < l.length) (hm : k < m.length) (he : l[k] = m[k]) : l.take (k + 1) = m.take (k + 1) := by
  rw [List.take_succ_eq_append_getElem hl, List.take_succ_eq_append_getElem hm, h, he]
set_option maxHeartbeats 3200000 in
theorem sameList_any {w : World} {v u : Value} {l m : List Int} (h : IL w v l) (hm : IL w u m) : Calls Try.prog 17 #[v, u] w fun e w' => e = .returned (.bool (decide (l = m))) ∧ Below w.heap.size w w' := by
  obtain ⟨⟨a, cap, rfl, hcap, hcm, hnn, hat⟩, hok, hfew⟩ := h
  obtain ⟨⟨ua, ucap, rfl, _, _, _, uat⟩, uok, ufew⟩ := hm
  have HA := hid hat
  have HU := hid uat
  have HOK := hid hok
  have HUK := hid uok
  clear hat uat hok uok hnn hcap hcm
  by_cases hl : l.length = m.length
  · have HL := hid hl
    have hmlen : ¬ ((l.length : Int) ≠ (m.length : Int)) := by omega
    rw [← hl]
    clear hl
    go_enter Try.func17, Try.ntmps17
    go_wp2_with fail
    go_loopg [5] l.length (fun kx s5 wr => ∃ k : Nat, k ≤ l.length ∧ l.length - k ≤ kx ∧ s5 = .int .i64 (k : Int) ∧ Hid (l.take k = m.take k ∧ Below w.heap.size w wr))
    case atStart => exact ⟨0, Nat.zero_le _, by omega, rfl, by simp, Below.refl _ _⟩
    case round =>
      obtain ⟨k, hk, hkx, rfl, HR⟩ := hrel
      by_cases hlt : k < l.length
      · have hltm : k < m.length := by have := HL.out; omega
        obtain ⟨b, off, rfl, hb, hc⟩ := HA.out (by intro e; rw [e] at hlt; simp at hlt)
        obtain ⟨b2, off2, rfl, hb2, hc2⟩ := HU.out (by intro e; rw [e] at hltm; simp at hltm)
        have hck := kept_cell HR.out.2 (hc k hlt)
        have hck2 := kept_cell HR.out.2 (hc2 k hltm)
        have hok := HOK.out l[k] (by simp)
        have huk := HUK.out m[k] (by simp)
        have HT := hid (take_eq_snoc HR.out.1 hlt hltm)
        have HE : Hid (l = m → l[k] = m[k]) := fun e => by subst e; rfl
        have hlt' : (k : Int) < (l.length : Int) := by omega
        have hk0 : (0 : Int) ≤ (k : Int) := by omega
        generalize l[k] = y at *
        generalize m[k] = z at *
        clear hc hc2
        by_cases he : y = z
        · have HTT := hid (HT.out he)
          subst he
          go_wp2_with fail
          go_quiet (fail)
          go_wp2_with fail
          go_roundg (l.length - (k + 1))
          case measure => omega
          case rel => exact ⟨k + 1, by omega, Nat.le_refl _, by go_num, HTT.out, by first | exact HR.out.2 | exact HR.out.2.drew | exact below_drewN HR.out.2 _⟩
        · have HF : Hid (decide (l = m) = false) := by show _ = _; simp; intro e; exact he (HE.out e)
          go_wp2_with fail
          go_quiet (fail)
          go_wp2_with fail
          go_ret
          exact ⟨by rw [HF.out]; rfl, by first | exact HR.out.2 | exact HR.out.2.drew | exact below_drewN HR.out.2 _⟩
      · have hlt' : ¬ (k : Int) < (l.length : Int) := by omega
        go_wp2_with fail
        go_ret
        have hr := HR.out
        rw [List.take_of_length_le (by omega), List.take_of_length_le (by have := HL.out; omega)] at hr
        exact ⟨by rw [hr.1]; simp, hr.2⟩
  · have HF : Hid (decide (l = m) = false) := by show _ = _; simp; intro e; exact hl (by rw [e])
    have hmlen : ((l.length : Int) ≠ (m.length : Int)) := by omega
    go_enter Try.func17, Try.ntmps17
    go_wp2_with fail
    go_ret
    exact ⟨by rw [HF.out]; rfl, Below.refl _ _⟩

def pickI (c n : Int) : Int := if c < 0 then (-(c + 1)) % n else c % n
theorem pickI_range (c n : Int) (hn : 1 ≤ n) : 0 ≤ pickI c n ∧ pickI c n < n := by
  unfold pickI
  split
  · exact ⟨Int.emod_nonneg _ (by omega), Int.emod_lt_of_pos _ (by omega)⟩
  · exact ⟨Int.emod_nonneg _ (by omega), Int.emod_lt_of_pos _ (by omega)⟩
theorem neg_tmod (c n : Int) : (-(c + 1)).tmod n = -((c + 1).tmod n) := by rw [Int.neg_tmod]
set_option maxHeartbeats 400000 in
theorem pick_any (c n : Int) (w : World) (hc : I64 c) (hn : 1 ≤ n) (hn2 : n ≤ 1000000) : Calls Try.prog 23 #[.int .i64 c, .int .i64 n] w fun e w' => e = .returned (.int .i64 (pickI c n)) ∧ w = w' := by
  unfold I64 at hc
  obtain ⟨hc1, hc2⟩ := hc
  by_cases h0 : c < 0
  · obtain ⟨d, hd⟩ : ∃ d, -(c + 1) = d := ⟨_, rfl⟩
    have HF : Hid (pickI c n = d % n) := by show _ = _; unfold pickI; rw [if_pos h0, hd]
    have hd0 : 0 ≤ d := by omega
    have hd1 : d ≤ 9223372036854775807 := by omega
    have hnz : n ≠ 0 := by omega
    go_enter Try.func23, Try.ntmps23
    go_wp2
    go_ret
    refine ⟨?_, rfl⟩
    rw [HF.out]
    refine ret_int ?_
    first | rfl | (rw [← neg_tmod, Int.tmod_eq_emod_of_nonneg (by omega)]) | (rw [Int.tmod_eq_emod_of_nonneg (by omega)])
  · have HF : Hid (pickI c n = c % n) := by show _ = _; unfold pickI; rw [if_neg h0]
    have hnz : n ≠ 0 := by omega
    have h0' : 0 ≤ c := by omega
    go_enter Try.func23, Try.ntmps23
    go_wp2
    go_ret
    refine ⟨?_, rfl⟩
    rw [HF.out]
    refine ret_int ?_
    first | rfl | (rw [Int.tmod_eq_emod_of_nonneg (by omega)])

/-- A list that was just written out. -/
theorem il_lit {W : World} {g : Nat} (l : List Int) (hg : W.heap[g]? = some (.cells (vals l).toArray 3)) (hok : ∀ x ∈ l, I64 x) (hf : l.length ≤ 1000) : IL W (.slice (some ⟨g, 0, none⟩) l.length l.length) l := by
  refine ⟨⟨some ⟨g, 0, none⟩, l.length, rfl, Nat.le_refl _, by unfold maxLen; omega, (fun h => by cases h), fun _ => ⟨g, 0, rfl, ?_, fun i hi => ?_⟩⟩, hok, by omega⟩
  · rcases Nat.lt_or_ge g W.heap.size with h1 | h1
    · exact h1
    · rw [Array.getElem?_eq_none h1] at hg; cases hg
  · exact cell_blk hg _ _ (by simp [vals, hi])

theorem sm64 (x : Int) (h : 0 ≤ x ∧ x ≤ 1000) : I64 x := by unfold I64; omega
theorem lit64 (l : List Int) (h : (l.all fun x => decide (0 ≤ x ∧ x ≤ 1000)) = true) : ∀ x ∈ l, I64 x := fun x hx => sm64 x (of_decide_eq_true (List.all_eq_true.1 h x hx))
end Go.Proofs.Ytdnpbhijjmlecaa
