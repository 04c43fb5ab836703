/- slices.Equal. -/
import Derived.Test.YtcffomhcmilcpaaGreatM5b
namespace Go.Proofs.YtcffomhcmilcpaaGreat
open Go.RowKit Go.Maps
set_option linter.unusedSimpArgs false
set_option linter.unusedVariables false
set_option maxRecDepth 100000

theorem below_drewN {B : Nat} {w w' : World} (h : Below B w w') (n : Nat) : Below B w (w'.drewN n) := by
  induction n with
  | zero => exact h
  | succ n ih => exact ih.drew
theorem take_eq_snoc {l m : List Int} {k : Nat} (h : l.take k = m.take k) (hl : k < l.length) (hm : k < m.length) (he : l[k] = m[k]) : l.take (k + 1) = m.take (k + 1) := by
  rw [List.take_succ_eq_append_getElem hl, List.take_succ_eq_append_getElem hm, h, he]
set_option maxHeartbeats 3200000 in
theorem equal_any {w : World} {v u : Value} {l m : List Int} (h : IL w v l) (hm : IL w u m) : Calls Tryz.prog 203 #[v, u] w fun e w' => e = .returned (.bool (decide (l = m))) ∧ Below w.heap.size w w' := by
  obtain ⟨⟨a, cap, rfl, hcap, hcm, hnn, hat⟩, hok, hfew⟩ := h
  obtain ⟨⟨ua, ucap, rfl, _, _, _, uat⟩, uok, ufew⟩ := hm
  have HA := hid hat
  have HU := hid uat
  have HOK := hid hok
  have HUK := hid uok
  clear hat uat hok uok hnn hcap hcm
  by_cases hl : l.length = m.length
  · have HL := hid hl
    have hmlen : ¬ ((l.length : Int) ≠ (m.length : Int)) := by omega
    rw [← hl]
    clear hl
    go_enter Tryz.func203, Tryz.ntmps203
    go_wp2_with fail
    go_loopg [13] l.length (fun kx s13 wr => ∃ k : Nat, k ≤ l.length ∧ l.length - k ≤ kx ∧ s13 = .int .i64 (k : Int) ∧ Hid (l.take k = m.take k ∧ Below w.heap.size w wr))
    case atStart => exact ⟨0, Nat.zero_le _, by omega, rfl, by simp, Below.refl _ _⟩
    case round =>
      obtain ⟨k, hk, hkx, rfl, HR⟩ := hrel
      by_cases hlt : k < l.length
      · have hltm : k < m.length := by have := HL.out; omega
        obtain ⟨b, off, rfl, hb, hc⟩ := HA.out (by intro e; rw [e] at hlt; simp at hlt)
        obtain ⟨b2, off2, rfl, hb2, hc2⟩ := HU.out (by intro e; rw [e] at hltm; simp at hltm)
        have hck := kept_cell HR.out.2 (hc k hlt)
        have hck2 := kept_cell HR.out.2 (hc2 k hltm)
        have hok := HOK.out l[k] (by simp)
        have huk := HUK.out m[k] (by simp)
        have HT := hid (take_eq_snoc HR.out.1 hlt hltm)
        have HE : Hid (l = m → l[k] = m[k]) := fun e => by subst e; rfl
        have hlt' : (k : Int) < (l.length : Int) := by omega
        have hk0 : (0 : Int) ≤ (k : Int) := by omega
        generalize l[k] = y at *
        generalize m[k] = z at *
        clear hc hc2
        by_cases he : y = z
        · have HTT := hid (HT.out he)
          subst he
          go_wp2_with fail
          go_quiet (fail)
          go_wp2_with fail
          go_roundg (l.length - (k + 1))
          case measure => omega
          case rel => exact ⟨k + 1, by omega, Nat.le_refl _, by go_num, HTT.out, by first | exact HR.out.2 | exact HR.out.2.drew | exact below_drewN HR.out.2 _⟩
        · have HF : Hid (decide (l = m) = false) := by show _ = _; simp; intro e; exact he (HE.out e)
          go_wp2_with fail
          go_quiet (fail)
          go_wp2_with fail
          go_ret
          exact ⟨by rw [HF.out]; rfl, by first | exact HR.out.2 | exact HR.out.2.drew | exact below_drewN HR.out.2 _⟩
      · have hlt' : ¬ (k : Int) < (l.length : Int) := by omega
        go_wp2_with fail
        go_ret
        have hr := HR.out
        rw [List.take_of_length_le (by omega), List.take_of_length_le (by have := HL.out; omega)] at hr
        exact ⟨by rw [hr.1]; simp, hr.2⟩
  · have HF : Hid (decide (l = m) = false) := by show _ = _; simp; intro e; exact hl (by rw [e])
    have hmlen : ((l.length : Int) ≠ (m.length : Int)) := by omega
    go_enter Tryz.func203, Tryz.ntmps203
    go_wp2_with fail
    go_ret
    exact ⟨by rw [HF.out]; rfl, Below.refl _ _⟩
end Go.Proofs.YtcffomhcmilcpaaGreat
