/- The document's Load: what it makes of any bytes. -/
import Derived.Test.YtkdbclnnmpnfgaaHL5
import Derived.Test.YtkdbclnnmpnfgaaHL6
import Derived.Test.YtkdbclnnmpnfgaaHL2
namespace Go.Proofs.Ytkdbclnnmpnfgaa
open Go.RowKit Go.Maps
set_option maxRecDepth 100000
set_option linter.unusedSimpArgs false
set_option linter.unusedVariables false

theorem loadR_code (r : List UInt8) : (loadR r).2 = 0 ∨ (loadR r).2 = 4 := by
  unfold loadR
  split
  · exact .inr rfl
  · split
    · exact .inl rfl
    · exact .inr rfl
theorem tab_len : ∀ T : Tb, T.length ≤ (tabB T).length
  | [] => Nat.zero_le _
  | p :: T => by
    have h1 := tab_len T
    have h2 := (intL_length p.1).1
    simp only [tabB, prodB, intsL, List.length_append, List.length_cons]
    omega
def DLoad (w w' : World) (R : Tb × Int) (e : Ending) : Prop :=
  Below w.heap.size w w' ∧ ((R.2 = 0 ∧ ∃ r v, e = .returned (.tuple #[.pointer (some ⟨r, 0, none⟩), .int .i64 0]) ∧ RT w' r v (flatT R.1)) ∨ (R.2 ≠ 0 ∧ e = .returned (.tuple #[.pointer none, .int .i64 R.2])))
set_option maxHeartbeats 3200000 in
theorem rload_short (b : List UInt8) (w : World) (hb : b.length ≤ 90000) (h4 : b.length < 4) :
    Calls Try.prog 25 #[.string (strOf b)] w fun e w' => e = .returned (.tuple #[.pointer none, .int .i64 5]) ∧ w = w' := by
  have hsz := strOf_size b
  have h4' : ((strOf b).size : Int) < 4 := by omega
  have h4'' : (b.length : Int) < 4 := by omega
  go_enter Try.func25, Try.ntmps25
  go_wp2_with fail
  go_ret2
  exact ⟨rfl, rfl⟩
set_option maxHeartbeats 3200000 in
theorem rload_sum (b : List UInt8) (w : World) (hb : b.length ≤ 90000) (h4 : ¬ b.length < 4) (h6 : ¬ fourN b = crcL (b.drop 4)) :
    Calls Try.prog 25 #[.string (strOf b)] w fun e w' => e = .returned (.tuple #[.pointer none, .int .i64 6]) ∧ Below w.heap.size w w' := by
  have hsz := strOf_size b
  have h4' : ¬ ((strOf b).size : Int) < 4 := by omega
  have h4'' : ¬ (b.length : Int) < 4 := by omega
  have hx := extract_drop b 4
  have hx2 := extract_take b 4
  have h5 : (4 : Int) ≤ ((strOf b).size : Int) := by omega
  have h5' : (4 : Int) ≤ (b.length : Int) := by omega
  have hdl : (strOf (b.drop 4)).size ≤ maxLen := by rw [strOf_size, List.length_drop]; unfold maxLen; omega
  have HC : Hid (∀ W, Calls Try.prog 24 #[.string (strOf (b.drop 4))] W fun e w' => e = .returned (.int .i64 (crcL (b.drop 4) : Nat)) ∧ W = w') := fun W => by
    have := rcrc_any (strOf (b.drop 4)) W hdl
    rw [strOf_data] at this
    exact this
  have HF : Hid (∀ W, Calls Try.prog 23 #[.int .i64 (crcL (b.drop 4) : Nat)] W fun e w' => e = .returned (.string (strOf (fourL (crcL (b.drop 4))))) ∧ Below W.heap.size W w') := fun W => rfour_any _ W (crcL_lt _)
  have hq : fourL (crcL (b.drop 4)) ≠ b.take 4 := by
    intro e
    apply h6
    have h1 := fourN_fourL (crcL (b.drop 4)) (b.drop 4) (crcL_lt _)
    rw [e, List.take_append_drop] at h1
    exact h1
  have hst : ((strOf (fourL (crcL (b.drop 4)))).toList == (strOf (b.take 4)).toList) = false := by
    rw [Lib.toList_data, Lib.toList_data, strOf_data, strOf_data]
    simpa using hq
  generalize crcL (b.drop 4) = C at *
  clear h6 hq h4
  go_enter Try.func25, Try.ntmps25
  go_wp2_with fail
  go_region_with (first
    | (go_at_call 24; refine (HC.out _).mono ?_; rintro e w1 ⟨rfl, rfl⟩)
    | (go_at_call 23; refine (HF.out _).mono ?_; rintro e w2 ⟨rfl, hb2⟩)
    | fail)
  all_goals
    have hB2 : Below w.heap.size w w2 := (by first | exact (Below.refl _ _).drew.trans hb2 | exact (below_drewN (Below.refl _ _) _).trans hb2)
    go_wp2_with fail
    go_ret2
    exact ⟨rfl, hB2⟩
theorem rload_any (b : List UInt8) (w : World) (hb : b.length ≤ 90000) :
    Calls Try.prog 25 #[.string (strOf b)] w fun e w' => DLoad w w' (loadL b) e := by
  by_cases h4 : b.length < 4
  · have e1 : loadL b = ([], 5) := by unfold loadL; rw [if_pos h4]
    rw [e1]
    refine (rload_short b w hb h4).mono ?_
    rintro e w' ⟨rfl, rfl⟩
    exact ⟨Below.refl _ _, .inr ⟨by decide, rfl⟩⟩
  by_cases h6 : fourN b = crcL (b.drop 4)
  case neg =>
    have e1 : loadL b = ([], 6) := by unfold loadL; rw [if_neg h4, if_pos h6]
    rw [e1]
    refine (rload_sum b w hb h4 h6).mono ?_
    rintro e w' ⟨rfl, hB⟩
    exact ⟨hB, .inr ⟨by decide, rfl⟩⟩
  have e0 : loadL b = loadR (b.drop 4) := by unfold loadL; rw [if_neg h4, if_neg (fun h => h h6)]
  by_cases hc : (loadL b).2 = 0
  · have e2 : loadL b = ((loadL b).1, 0) := by rw [← hc]
    generalize (loadL b).1 = T at *
    rw [e2]
    obtain ⟨hk, hT⟩ := load_inv b T (by omega) e2
    have hd : b.drop 4 = intL (T.length : Int) ++ tabB T := by
      rw [hk]
      unfold keepB sealL
      exact List.drop_left' rfl
    have hTl : I64 (T.length : Int) := by
      have h1 := tab_len T
      have h2 := congrArg List.length hd
      rw [List.length_append, List.length_drop] at h2
      unfold I64
      omega
    have hn0 : numS ⟨b.drop 4, false⟩ = ((T.length : Int), ⟨tabB T, false⟩) := by rw [hd]; exact num_back _ hTl _ _
    refine (rload_walk b w hb h4 h6 _ _ hn0 (JOg T) (JIg T) False (fun ms => ms = flatT T) ⟨[], T, rfl, rfl, rfl, rfl, rfl⟩ ?_ ?_ ?_ ?_ ?_ ?_ ?_).mono ?_
    · intro i last ms s h hi _ hb'
      exact (g1 hT i last ms s h hi).1 hb'
    · intro i last ms s h hi _ _
      exact (g1 hT i last ms s h hi).2
    · intro i pid n k was ms s h hk' _ hx
      have := (g2 hT i pid n k was ms s h hk').1
      rw [this] at hx; cases hx
    · intro i pid n k was ms s h hk' _ _
      exact (g2 hT i pid n k was ms s h hk').2
    · intro i pid n k was ms s h hk'
      exact g3 i pid n k was ms s h hk'
    · intro i last ms s h hi hx
      obtain ⟨q1, q2, q3⟩ := g4 i last ms s h hi
      rcases hx with hx | hx | hx
      · rw [q1] at hx; cases hx
      · exact hx q2
      · omega
    · intro i last ms s h hi _ _ _
      exact (g4 i last ms s h hi).2.2
    · rintro e w' ⟨hB, h | ⟨ms, r, v, rfl, rfl, hR, _⟩⟩
      · exact h.1.elim
      · exact ⟨hB, .inl ⟨rfl, r, v, rfl, hR⟩⟩
  · have h44 : (loadL b).2 = 4 := by
      rcases loadR_code (b.drop 4) with h | h
      · rw [← e0] at h; exact absurd h hc
      · rw [← e0] at h; exact h
    obtain ⟨n0, s0, hn0⟩ : ∃ n0 s0, numS ⟨b.drop 4, false⟩ = (n0, s0) := ⟨_, _, rfl⟩
    refine (rload_walk b w hb h4 h6 _ _ hn0 (JOb (b.drop 4) n0) (JIb (b.drop 4) n0) True (fun ms => False) (b0 hn0) (fun _ _ _ _ _ _ _ _ => trivial) ?_ (fun _ _ _ _ _ _ _ _ _ _ _ => trivial) ?_ ?_ (fun _ _ _ _ _ _ _ => trivial) ?_).mono ?_
    · intro i last ms s h hi hw hx
      exact b1 i last ms s h hi hw hx
    · intro i pid n k was ms s h hk' hw hx
      exact b2 i pid n k was ms s h hk' hw hx
    · intro i pid n k was ms s h hk'
      exact b3 i pid n k was ms s h hk'
    · intro i last ms s h hi hw hr h0
      exact b5 (by omega) h4 h6 hc i last ms s h hi hw hr h0
    · rintro e w' ⟨hB, h | ⟨ms, r, v, h, _⟩⟩
      · refine ⟨hB, .inr ⟨hc, ?_⟩⟩
        rw [h44]; exact h.2
      · exact h.elim
end Go.Proofs.Ytkdbclnnmpnfgaa

