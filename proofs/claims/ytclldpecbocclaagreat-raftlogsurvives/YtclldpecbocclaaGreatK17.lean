/- right: why entries may not be put; unknown: what is left of them. -/
import Derived.Test.YtclldpecbocclaaGreatK12
namespace Go.Proofs.YtclldpecbocclaaGreat
open Go.RowKit Go.Maps
set_option maxRecDepth 100000
set_option linter.unusedSimpArgs false
set_option linter.unusedVariables false

theorem rightE_step {after : Int} {k : Nat} {T : Int} {l : List Et} {x : Et} (hx : l[k]? = some x) : rightE after k T (l.drop k) = if badE after k T x = true then 1 else if 2048 < x.d.length then 2 else rightE after (k + 1) x.t (l.drop (k + 1)) := by
  have hk : k < l.length := (List.getElem?_eq_some_iff.1 hx).1
  have e : l.drop k = x :: l.drop (k + 1) := by
    rw [List.drop_eq_getElem_cons hk]
    congr 1
    exact (List.getElem?_eq_some_iff.1 hx).2
  rw [e]
  rfl
set_option maxHeartbeats 1600000 in
theorem right_any {w : World} {oa : Option Addr} {cap : Nat} {l : List Et} (h : EAt w oa l) (hl : l.length ≤ 1000000) (after : Int) (h0 : 0 ≤ after) (h1 : after ≤ 2000000000) :
    Calls Tryz.prog 23 #[.int .i64 after, .slice oa l.length cap] w fun e w' => e = .returned (.int .i64 (rightE after 0 1 l : Nat)) ∧ Below w.heap.size w w' := by
  have HE := hid h
  have H0 : Hid (rightE after 0 1 l = rightE after 0 1 (l.drop 0)) := by show _ = _; rfl
  clear h
  go_enter Tryz.func23, Tryz.ntmps23
  go_wp2_with fail
  go_loopg [5, 10] l.length (fun kx s5 s10 wr => ∃ (k : Nat) (T : Int), k ≤ l.length ∧ l.length - k ≤ kx ∧ s10 = .int .i64 (k : Int) ∧ s5 = .int .i64 T ∧ Hid (Below w.heap.size w wr ∧ rightE after 0 1 l = rightE after k T (l.drop k)))
  case atStart => exact ⟨0, 1, by omega, by omega, rfl, rfl, Below.refl _ _, rfl⟩
  case round =>
    obtain ⟨k, T, hk, hkx, rfl, rfl, HI⟩ := hrel
    clear H0
    by_cases hlt : k < l.length
    · have hlt' : (k : Int) < (l.length : Int) := by omega
      obtain ⟨g, o, rfl, hg, _⟩ := HE.out (by omega)
      have hx : l[k]? = some l[k] := List.getElem?_eq_getElem hlt
      obtain ⟨r0, r1, r2⟩ := (HE.out.under HI.out.1).at_ k l[k] hx
      have HS : Hid (rightE after 0 1 l = if badE after k T l[k] = true then 1 else if 2048 < l[k].d.length then 2 else rightE after (k + 1) l[k].t (l.drop (k + 1))) := by
        show _ = _
        rw [HI.out.2, rightE_step hx]
      have HB := hid HI.out.1
      clear hx
      generalize l[k] = x at *
      obtain ⟨t, i, d⟩ := x
      simp only at *
      have HBad : Hid (badE after k T ⟨t, i, d⟩ = (decide (i ≠ after + 1 + (k : Int)) || !idB i || !idB t || decide (t < T))) := rfl
      have hw : IntKind.i64.wrap (after + 1 + (k : Int)) = after + 1 + (k : Int) := IntWalk.i64_in _ ⟨by omega, by omega⟩
      have hsz := strOf_size d
      have HBA := hid (HB.out.alloc HB.out.size (.cells #[.int .i64 t, .int .i64 i, .string (strOf d)] 37))
      by_cases b1 : i = after + 1 + (k : Int)
      · have hb1 : (i != after + 1 + (k : Int)) = false := by simp [b1]
        have hq1 : decide (i ≠ after + 1 + (k : Int)) = false := by simp [b1]
        clear b1
        cases b2 : idB i with
        | false =>
          have HR : Hid (rightE after 0 1 l = 1) := by
            have h1 := HS.out
            rw [if_pos (by rw [HBad.out, b2]; simp)] at h1
            exact h1
          go_wp2_with (go_at_call 31; refine (isId_any _ _).mono ?_; rintro e w2 ⟨rfl, rfl⟩)
          go_ret
          exact ⟨by rw [HR.out]; rfl, HBA.out⟩
        | true =>
          cases b3 : idB t with
          | false =>
            have HR : Hid (rightE after 0 1 l = 1) := by
              have h1 := HS.out
              rw [if_pos (by rw [HBad.out, b3]; simp)] at h1
              exact h1
            go_wp2_with (go_at_call 31; refine (isId_any _ _).mono ?_; rintro e w2 ⟨rfl, rfl⟩)
            go_ret
            exact ⟨by rw [HR.out]; rfl, HBA.out⟩
          | true =>
            by_cases b4 : t < T
            · have HR : Hid (rightE after 0 1 l = 1) := by
                have h1 := HS.out
                rw [if_pos (by rw [HBad.out, decide_eq_true b4]; simp)] at h1
                exact h1
              go_wp2_with (go_at_call 31; refine (isId_any _ _).mono ?_; rintro e w2 ⟨rfl, rfl⟩)
              go_ret
              exact ⟨by rw [HR.out]; rfl, HBA.out⟩
            · have HN : Hid (¬ badE after k T ⟨t, i, d⟩ = true) := by
                show ¬ _
                rw [HBad.out, b2, b3, decide_eq_false b4, hq1]
                simp
              by_cases b5 : 2048 < d.length
              · have b5' : (2048 : Int) < ((strOf d).size : Int) := by omega
                have b5'' : (2048 : Int) < (d.length : Int) := by omega
                have HR : Hid (rightE after 0 1 l = 2) := by
                  have h1 := HS.out
                  rw [if_neg HN.out, if_pos b5] at h1
                  exact h1
                go_wp2_with (go_at_call 31; refine (isId_any _ _).mono ?_; rintro e w2 ⟨rfl, rfl⟩)
                go_ret
                exact ⟨by rw [HR.out]; rfl, HBA.out⟩
              · have b5' : ¬ (2048 : Int) < ((strOf d).size : Int) := by omega
                have b5'' : ¬ (2048 : Int) < (d.length : Int) := by omega
                have HR : Hid (rightE after 0 1 l = rightE after (k + 1) t (l.drop (k + 1))) := by
                  have h1 := HS.out
                  rw [if_neg HN.out, if_neg b5] at h1
                  exact h1
                go_wp2_with (go_at_call 31; refine (isId_any _ _).mono ?_; rintro e w2 ⟨rfl, rfl⟩)
                go_roundg (l.length - (k + 1))
                case measure => omega
                case rel => exact ⟨k + 1, t, by omega, Nat.le_refl _, by go_num, rfl, HBA.out, HR.out⟩
      · have hb1 : (i != after + 1 + (k : Int)) = true := by simp [b1]
        have HR : Hid (rightE after 0 1 l = 1) := by
          have h1 := HS.out
          rw [if_pos (by rw [HBad.out, decide_eq_true b1]; simp)] at h1
          exact h1
        clear b1
        go_wp2_with fail
        go_ret
        exact ⟨by rw [HR.out]; rfl, HBA.out⟩
    · have hlt' : ¬ (k : Int) < (l.length : Int) := by omega
      have HR : Hid (rightE after 0 1 l = 0) := by
        show _ = _
        rw [HI.out.2, List.drop_of_length_le (by omega)]
        rfl
      go_wp2_with fail
      go_ret
      exact ⟨by rw [HR.out]; rfl, HI.out.1⟩
end Go.Proofs.YtclldpecbocclaaGreat

