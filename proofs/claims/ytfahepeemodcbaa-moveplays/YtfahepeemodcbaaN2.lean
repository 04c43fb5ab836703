/- Whether a list is right, the document's way. -/
import Derived.Test.YtfahepeemodcbaaN1
import Derived.Test.YtfahepeemodcbaaM15
namespace Go.Proofs.Ytfahepeemodcbaa
open Go.RowKit Go.Maps
set_option linter.unusedSimpArgs false
set_option linter.unusedVariables false
set_option maxRecDepth 100000

theorem IL.front {w : World} {a : Option Addr} {c : Nat} {l : List Int} (h : IL w (.slice a l.length c) l) (k : Nat) (hk : k ≤ l.length) : IL w (.slice a k c) (l.take k) := by
  obtain ⟨⟨a', cap, e, h1, h2, h3, h4⟩, h5, h6⟩ := h
  cases e
  have hl : (l.take k).length = k := by rw [List.length_take]; omega
  refine ⟨⟨a, c, by rw [hl], by omega, h2, h3, fun hn => ?_⟩, fun x hx => h5 x (List.mem_of_mem_take hx), by omega⟩
  obtain ⟨b, off, rfl, e2, e3⟩ := h4 (by intro e; rw [e] at hn; simp at hn)
  refine ⟨b, off, rfl, e2, fun i hi => ?_⟩
  have hi' : i < l.length := by omega
  rw [e3 i hi']
  simp
set_option maxHeartbeats 3200000 in
theorem rids_any {w : World} {v : Value} {l : List Int} (h : IL w v l) : Calls Try.prog 40 #[v] w fun e w' => e = .returned (.bool (idsB l)) ∧ Below w.heap.size w w' := by
  have HI := hid h
  obtain ⟨⟨a, cap, rfl, hcap, hcm, hnn, hat⟩, hok, hfew⟩ := h
  have HA := hid hat
  have HOK := hid hok
  clear hat hok hnn hcm
  go_enter Try.func40, Try.ntmps40
  go_wp2_with fail
  go_loopg [3] l.length (fun kx s3 wr => ∃ k : Nat, k ≤ l.length ∧ l.length - k ≤ kx ∧ s3 = .int .i64 (k : Int) ∧ Hid (Below w.heap.size w wr ∧ idsB (l.take k) = true))
  case atStart => exact ⟨0, Nat.zero_le _, by omega, rfl, Below.refl _ _, rfl⟩
  case round =>
    obtain ⟨k, hk, hkx, rfl, HR⟩ := hrel
    by_cases hlt : k < l.length
    · obtain ⟨b, off, rfl, hb, hc⟩ := HA.out (by intro e; rw [e] at hlt; simp at hlt)
      have hck := kept_cell HR.out.1 (hc k hlt)
      have hok := HOK.out l[k] (by simp)
      have HX : Hid (l[k]? = some l[k]) := List.getElem?_eq_getElem hlt
      have HT : Hid (l.take (k + 1) = l.take k ++ [l[k]]) := List.take_succ_eq_append_getElem hlt
      have HF := hid (HI.out.front k (by omega))
      have hlt' : (k : Int) < (l.length : Int) := by omega
      have hk0 : (0 : Int) ≤ (k : Int) := by omega
      have hkc : (k : Int) ≤ (cap : Int) := by omega
      generalize l[k] = y at *
      clear hc
      have H42 : Hid (∀ W, Below w.heap.size w W → Calls Try.prog 42 #[.slice (some ⟨b, off, none⟩) k cap, .int .i64 y] W fun e w' => e = .returned (.bool (hasB (l.take k) y)) ∧ w' = W) := fun W hb => (rhas_any (HF.out.under hb) y hok).mono fun e w' ⟨p, q⟩ => ⟨p, q.symm⟩
      cases hB : hasB (l.take k) y with
      | true =>
        rw [hB] at H42
        have HN := hid (ids_twice HX.out (hasB_iff.1 hB))
        clear hB
        by_cases h1 : y < 1
        · go_wp2_with fail
          go_quiet ((go_at_call 42; exact Calls.quiet_of_same (H42.out _ (below_drewN HR.out.1 _))))
          go_wp2_with fail
          go_ret
          exact ⟨by rw [HN.out]; rfl, below_drewN HR.out.1 _⟩
        · by_cases h7 : 7 < y
          · go_wp2_with fail
            go_quiet ((go_at_call 42; exact Calls.quiet_of_same (H42.out _ (below_drewN HR.out.1 _))))
            go_wp2_with fail
            go_ret
            exact ⟨by rw [HN.out]; rfl, below_drewN HR.out.1 _⟩
          · go_wp2_with fail
            go_quiet ((go_at_call 42; exact Calls.quiet_of_same (H42.out _ (below_drewN HR.out.1 _))))
            go_wp2_with fail
            go_ret
            exact ⟨by rw [HN.out]; rfl, below_drewN HR.out.1 _⟩
      | false =>
        rw [hB] at H42
        have HNI : Hid (y ∉ l.take k) := fun hn => by rw [hasB_iff.2 hn] at hB; cases hB
        clear hB
        by_cases h1 : y < 1
        · have HN := hid (ids_not HX.out (by omega))
          go_wp2_with fail
          go_quiet ((go_at_call 42; exact Calls.quiet_of_same (H42.out _ (below_drewN HR.out.1 _))))
          go_wp2_with fail
          go_ret
          exact ⟨by rw [HN.out]; rfl, below_drewN HR.out.1 _⟩
        · by_cases h7 : 7 < y
          · have HN := hid (ids_not HX.out (by omega))
            go_wp2_with fail
            go_quiet ((go_at_call 42; exact Calls.quiet_of_same (H42.out _ (below_drewN HR.out.1 _))))
            go_wp2_with fail
            go_ret
            exact ⟨by rw [HN.out]; rfl, below_drewN HR.out.1 _⟩
          · have HS := hid (ids_snoc HR.out.2 (by omega) HNI.out)
            go_wp2_with fail
            go_quiet ((go_at_call 42; exact Calls.quiet_of_same (H42.out _ (below_drewN HR.out.1 _))))
            go_wp2_with fail
            go_roundg (l.length - (k + 1))
            case measure => omega
            case rel => exact ⟨k + 1, by omega, Nat.le_refl _, by go_num, below_drewN HR.out.1 _, by rw [HT.out]; exact HS.out⟩
    · have hlt' : ¬ (k : Int) < (l.length : Int) := by omega
      go_wp2_with fail
      go_ret
      have hr := HR.out
      rw [List.take_of_length_le (by omega)] at hr
      exact ⟨by rw [hr.2]; rfl, hr.1⟩
end Go.Proofs.Ytfahepeemodcbaa
