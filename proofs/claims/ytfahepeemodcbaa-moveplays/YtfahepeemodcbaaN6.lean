/- first, Same: the document's. -/
import Derived.Test.YtfahepeemodcbaaN5
namespace Go.Proofs.Ytfahepeemodcbaa
open Go.RowKit Go.Maps
set_option linter.unusedSimpArgs false
set_option linter.unusedVariables false
set_option maxRecDepth 100000

def docL (l a b : List Int) (but : Int) : List Int := outL (inL (inL l a) b) [but]
theorem doc_append (l m a b : List Int) (but : Int) : docL (l ++ m) a b but = docL l a b but ++ docL m a b but := by simp [docL, outL, inL, List.filter_append]
theorem doc_hit (a b : List Int) (but y : Int) (r : List Int) (h1 : y ∈ a) (h2 : y ∈ b) (h3 : y ≠ but) : docL (y :: r) a b but = y :: docL r a b but := by
  unfold docL outL inL
  rw [List.filter_cons_of_pos (hasB_iff.2 h1), List.filter_cons_of_pos (hasB_iff.2 h2), List.filter_cons_of_pos (by simp [lackB, hasB, h3])]
theorem doc_miss (a b : List Int) (but y : Int) (h : ¬ (y ∈ a ∧ y ∈ b ∧ y ≠ but)) : docL [y] a b but = [] := by
  cases hd : docL [y] a b but with
  | nil => rfl
  | cons x r =>
    exfalso
    have hx : x ∈ docL [y] a b but := by rw [hd]; simp
    unfold docL at hx
    rw [mem_outL, mem_inL, mem_inL] at hx
    obtain ⟨⟨⟨e1, e2⟩, e3⟩, e4⟩ := hx
    simp at e1 e4
    subst e1
    exact h ⟨e2, e3, e4⟩
set_option maxHeartbeats 3200000 in
theorem rfirst_any {w : World} {v va vb : Value} {l a b : List Int} (h : IL w v l) (ha : IL w va a) (hb : IL w vb b) (but : Int) (hbut : I64 but) : Calls Try.prog 64 #[v, va, vb, .int .i64 but] w fun e w' => e = .returned (.int .i64 (headL (docL l a b but))) ∧ I64 (headL (docL l a b but)) ∧ w = w' := by
  have HAA := hid ha
  have HBB := hid hb
  obtain ⟨⟨oa, cap, rfl, hcap, hcm, hnn, hat⟩, hok, hfew⟩ := h
  obtain ⟨a1, c1, rfl, _⟩ := ha.shape
  obtain ⟨a2, c2, rfl, _⟩ := hb.shape
  have HA := hid hat
  have HOK := hid hok
  clear hat hok hnn hcap hcm ha hb
  go_enter Try.func64, Try.ntmps64
  go_wp2_with fail
  go_loopg [9] l.length (fun kx s9 wr => ∃ k : Nat, k ≤ l.length ∧ l.length - k ≤ kx ∧ s9 = .int .i64 (k : Int) ∧ Hid (docL (l.take k) a b but = []) ∧ wr = w)
  case atStart => exact ⟨0, Nat.zero_le _, by omega, rfl, rfl, rfl⟩
  case round =>
    obtain ⟨k, hk, hkx, rfl, HR, rfl⟩ := hrel
    by_cases hlt : k < l.length
    · obtain ⟨b0, off, rfl, _, hc⟩ := HA.out (by intro e; rw [e] at hlt; simp at hlt)
      have hck := hc k hlt
      have hok := HOK.out l[k] (by simp)
      have HT : Hid (l.take (k + 1) = l.take k ++ [l[k]]) := List.take_succ_eq_append_getElem hlt
      have HL : Hid (l = l.take k ++ (l[k] :: l.drop (k + 1))) := by
        show _ = _
        conv => lhs; rw [← List.take_append_drop k l, List.drop_eq_getElem_cons hlt]
      have hlt' : (k : Int) < (l.length : Int) := by omega
      generalize hy : l[k] = y at *
      clear hc hy
      have G1 := hid (rhas_any HAA.out y hok)
      have G2 := hid (rhas_any HBB.out y hok)
      have HMISS : Hid (¬ (y ∈ a ∧ y ∈ b ∧ y ≠ but) → docL (l.take (k + 1)) a b but = []) := fun hn => by rw [HT.out, doc_append, HR.out, doc_miss a b but y hn]; rfl
      have HHIT : Hid (y ∈ a → y ∈ b → y ≠ but → headL (docL l a b but) = y) := fun e1 e2 e3 => by rw [HL.out, doc_append, HR.out, doc_hit a b but y _ e1 e2 e3]; rfl
      have HI1 : Hid (hasB a y = true ↔ y ∈ a) := hasB_iff
      have HI2 : Hid (hasB b y = true ↔ y ∈ b) := hasB_iff
      generalize hasB a y = B1 at *
      generalize hasB b y = B2 at *
      go_wp2_with fail
      refine G1.out.mono ?_
      rintro e W1 ⟨rfl, rfl⟩
      go_wp2_with fail
      refine G2.out.mono ?_
      rintro e W1 ⟨rfl, rfl⟩
      cases B1
      · have HM := hid (HMISS.out fun hn => by have := HI1.out.2 hn.1; cases this)
        clear HMISS HHIT HI1 HI2
        go_wp2_with fail
        go_roundg (l.length - (k + 1))
        case measure => omega
        case rel => exact ⟨k + 1, by omega, Nat.le_refl _, by go_num, HM.out, rfl⟩
      cases B2
      · have HM := hid (HMISS.out fun hn => by have := HI2.out.2 hn.2.1; cases this)
        clear HMISS HHIT HI1 HI2
        go_wp2_with fail
        go_roundg (l.length - (k + 1))
        case measure => omega
        case rel => exact ⟨k + 1, by omega, Nat.le_refl _, by go_num, HM.out, rfl⟩
      by_cases hyb : y = but
      · have HM := hid (HMISS.out fun hn => hn.2.2 hyb)
        have hybb : (y != but) = false := by simp [hyb]
        clear HMISS HHIT HI1 HI2 hyb
        go_wp2_with fail
        go_roundg (l.length - (k + 1))
        case measure => omega
        case rel => exact ⟨k + 1, by omega, Nat.le_refl _, by go_num, HM.out, rfl⟩
      · have hybb : (y != but) = true := by simp [hyb]
        have HH := hid (HHIT.out (HI1.out.1 rfl) (HI2.out.1 rfl) hyb)
        clear HMISS HHIT HI1 HI2
        go_wp2_with fail
        go_ret
        exact ⟨by rw [HH.out]; rfl, by rw [HH.out]; exact hok, rfl⟩
    · have hlt' : ¬ (k : Int) < (l.length : Int) := by omega
      go_wp2_with fail
      go_ret
      have hr := HR.out
      rw [List.take_of_length_le (by omega)] at hr
      exact ⟨by rw [hr]; rfl, by rw [hr]; exact i64z, rfl⟩
end Go.Proofs.Ytfahepeemodcbaa
