/- Put without memory. -/
import Derived.Test.YtclldpecbocclaaGreatK7
namespace Go.Proofs.YtclldpecbocclaaGreat
set_option linter.unusedSimpArgs false
set_option linter.unusedVariables false

theorem right_zero (after : Int) : ∀ (l : List Et) (k : Nat) (T : Int), rightE after k T l = 0 → (∀ (j : Nat) x, l[j]? = some x → x.i = after + 1 + (k : Int) + (j : Int)) ∧ (∀ x ∈ l, (1 ≤ x.t ∧ x.t ≤ 1000000000) ∧ (1 ≤ x.i ∧ x.i ≤ 1000000000) ∧ x.d.length ≤ 2048 ∧ T ≤ x.t) ∧ l.Pairwise (fun x y => x.t ≤ y.t)
  | [], k, T, h => ⟨fun j x hx => by simp at hx, by simp, List.Pairwise.nil⟩
  | x :: r, k, T, h => by
    unfold rightE at h
    by_cases hb : badE after k T x = true
    · rw [if_pos hb] at h; cases h
    · rw [if_neg hb] at h
      by_cases hd : 2048 < x.d.length
      · rw [if_pos hd] at h; cases h
      · rw [if_neg hd] at h
        obtain ⟨i1, i2, i3⟩ := right_zero after r (k + 1) x.t h
        have hb' : badE after k T x = false := by simpa using hb
        unfold badE at hb'
        simp only [Bool.or_eq_false_iff, decide_eq_false_iff_not, Bool.not_eq_false'] at hb'
        obtain ⟨⟨⟨b1, b2⟩, b3⟩, b4⟩ := hb'
        have r2 := (idB_iff _).1 (by simpa using b2)
        have r3 := (idB_iff _).1 (by simpa using b3)
        have hx : x.i = after + 1 + (k : Int) := by simpa using b1
        refine ⟨fun j y hy => ?_, fun y hy => ?_, ?_⟩
        · cases j with
          | zero => simp at hy; subst hy; simp; exact hx
          | succ j =>
            have := i1 j y (by simpa using hy)
            rw [this]; push_cast; omega
        · rcases List.mem_cons.1 hy with rfl | hy
          · exact ⟨r3, r2, by omega, by omega⟩
          · obtain ⟨a1, a2, a3, a4⟩ := i2 y hy
            exact ⟨a1, a2, a3, by omega⟩
        · exact List.pairwise_cons.2 ⟨fun y hy => (i2 y hy).2.2.2, i3⟩
theorem right_zero0 {after : Int} {l : List Et} (h : rightE after 0 1 l = 0) : (∀ (j : Nat) x, l[j]? = some x → x.i = after + 1 + (j : Int)) ∧ (∀ x ∈ l, (1 ≤ x.t ∧ x.t ≤ 1000000000) ∧ (1 ≤ x.i ∧ x.i ≤ 1000000000) ∧ x.d.length ≤ 2048) ∧ l.Pairwise (fun x y => x.t ≤ y.t) := by
  obtain ⟨h1, h2, h3⟩ := right_zero after l 0 1 h
  exact ⟨fun j x hx => by have := h1 j x hx; omega, fun x hx => ⟨(h2 x hx).1, (h2 x hx).2.1, (h2 x hx).2.2.1⟩, h3⟩
theorem unk_drop (s : LSt) : ∀ l : List Et, ∃ k, k ≤ l.length ∧ unkE s l = l.drop k ∧ (∀ (j : Nat) y, j < k → l[j]? = some y → knownE s y = true) ∧ (∀ x, l[k]? = some x → knownE s x = false)
  | [] => ⟨0, Nat.le_refl _, rfl, fun j y hj => by omega, fun x hx => by simp at hx⟩
  | x :: r => by
    unfold unkE
    by_cases hkn : knownE s x = true
    · rw [if_pos hkn]
      obtain ⟨k, h1, h2, h3, h4⟩ := unk_drop s r
      refine ⟨k + 1, by simp; omega, by simpa using h2, fun j y hj hy => ?_, fun y hy => h4 y (by simpa using hy)⟩
      cases j with
      | zero => simp at hy; subst hy; exact hkn
      | succ j => exact h3 j y (by omega) (by simpa using hy)
    · rw [if_neg hkn]
      exact ⟨0, by simp, rfl, fun j y hj => by omega, fun y hy => by simp at hy; subst hy; simpa using hkn⟩
/-- The first that is left stands at the end, or ahead of it. -/
theorem unk_first {s : LSt} (hk : LOk s) {after : Int} (h0 : 0 ≤ after) (h1 : after ≤ (lastE s).i) {l : List Et} (hr : rightE after 0 1 l = 0) {x : Et} {r : List Et} (hu : unkE s l = x :: r) :
    ∃ n : Nat, n ≤ s.list.length ∧ x.i = s.snap.i + 1 + (n : Int) ∧ (x.i - (s.snap.i + 1)).toNat = n ∧ (∀ y ∈ x :: r, (1 ≤ y.t ∧ y.t ≤ 1000000000) ∧ (1 ≤ y.i ∧ y.i ≤ 1000000000) ∧ y.d.length ≤ 2048) ∧ (x :: r).Pairwise (fun x y => x.t ≤ y.t) ∧ (∀ (j : Nat) y, (x :: r)[j]? = some y → y.i = x.i + (j : Int)) ∧ (x :: r).length ≤ l.length := by
  obtain ⟨k, k1, k2, k3, k4⟩ := unk_drop s l
  obtain ⟨z1, z2, z3⟩ := right_zero0 hr
  rw [hu] at k2
  have hx : l[k]? = some x := by
    have : (l.drop k)[0]? = some x := by rw [← k2]; rfl
    rw [List.getElem?_drop] at this
    exact this
  have hxi := z1 k x hx
  have hxk := k4 x hx
  unfold knownE at hxk
  simp only [Bool.or_eq_false_iff, decide_eq_false_iff_not] at hxk
  have hlast := hk.last
  have hle : x.i ≤ s.snap.i + 1 + (s.list.length : Int) := by
    cases k with
    | zero => simp at hxi; omega
    | succ k =>
      have hlt : k < l.length := by have := (List.getElem?_eq_some_iff.1 hx).1; omega
      have hy : l[k]? = some l[k] := List.getElem?_eq_getElem hlt
      have hyk := k3 k _ (by omega) hy
      have hyi := z1 k _ hy
      unfold knownE at hyk
      simp only [Bool.or_eq_true, decide_eq_true_eq] at hyk
      rcases hyk with h | h
      · push_cast at hxi; omega
      · cases hA : atE s l[k].i with
        | none => rw [hA] at h; simp at h
        | some y =>
          obtain ⟨j, hj, hjl, _⟩ := atE_some hA
          push_cast at hxi; omega
  refine ⟨(x.i - (s.snap.i + 1)).toNat, by omega, by omega, rfl, ?_, ?_, ?_, ?_⟩
  · rw [k2]; exact fun y hy => z2 y (List.mem_of_mem_drop hy)
  · rw [k2]; exact z3.sublist (List.drop_sublist _ _)
  · intro j y hy
    rw [k2, List.getElem?_drop] at hy
    have := z1 _ _ hy
    rw [this, hxi]; push_cast; omega
  · rw [k2, List.length_drop]; omega
theorem pw_take {s : LSt} (h : LOk s) (n : Nat) : (s.snap :: s.list.take n).Pairwise (fun x y => x.t ≤ y.t) := h.rise.sublist ((List.take_sublist n s.list).cons_cons s.snap)
theorem putE_ok {s : LSt} (hk : LOk s) (free : Nat) (after : Int) (l : List Et) : LOk (putE free s after l).2 := by
  unfold putE
  split
  · exact hk
  rename_i ha
  split
  · exact hk
  rename_i hr
  have hr' : rightE after 0 1 l = 0 := Decidable.byContradiction hr
  cases hu : unkE s l with
  | nil => exact hk
  | cons x r =>
    simp only
    split
    · exact hk
    rename_i ht
    split
    · exact hk
    obtain ⟨n, hn, hxi, hxn, hrg, hpw, hidx, _⟩ := unk_first hk (by omega) (by omega) hr' hu
    rw [hxn]
    have hahead : (aheadE s x.i).t ≤ x.t := by omega
    have hlt : (s.list.take n).length = n := by rw [List.length_take]; omega
    -- each of those kept is not behind the new ones
    have hkeep : ∀ y ∈ s.snap :: s.list.take n, y.t ≤ x.t := by
      intro y hy
      cases n with
      | zero =>
        have hA : atE s (x.i - 1) = none := by unfold atE; rw [if_pos (.inl (by simp at hxi; omega))]
        unfold aheadE at hahead
        rw [hA] at hahead
        simp at hy hahead
        rw [hy]; exact hahead
      | succ n =>
        have hA : atE s (x.i - 1) = s.list[n]? := by
          have : x.i - 1 = s.snap.i + 1 + (n : Int) := by push_cast at hxi; omega
          rw [this, atE_at]
        have hz : s.list[n]? = some s.list[n] := List.getElem?_eq_getElem (by omega)
        unfold aheadE at hahead
        rw [hA, hz] at hahead
        simp only [Option.getD_some] at hahead
        have hp := pw_take hk (n + 1)
        rw [List.take_succ_eq_append_getElem (by omega), ← List.cons_append] at hp
        rw [List.take_succ_eq_append_getElem (by omega), ← List.cons_append, List.mem_append] at hy
        rcases hy with hy | hy
        · have := (List.pairwise_append.1 hp).2.2 y hy s.list[n] (by simp)
          omega
        · simp at hy; rw [hy]; exact hahead
    refine ⟨fun j y hy => ?_, ?_, fun y hy => ?_, hk.srng, hk.hs, (by intro h; cases h), hk.tv, hk.ht⟩
    · simp only at hy ⊢
      by_cases hj : j < n
      · rw [List.getElem?_append_left (by omega), List.getElem?_take, if_pos hj] at hy
        exact hk.idx j y hy
      · rw [List.getElem?_append_right (by omega), hlt] at hy
        have := hidx _ y hy
        omega
    · show (s.snap :: (s.list.take n ++ (x :: r))).Pairwise _
      rw [← List.cons_append, List.pairwise_append]
      refine ⟨pw_take hk n, hpw, fun y hy z hz => ?_⟩
      have h1 := hkeep y hy
      rcases List.mem_cons.1 hz with rfl | hz
      · exact h1
      · have := (List.pairwise_cons.1 hpw).1 z hz; omega
    · simp only at hy
      rcases List.mem_append.1 hy with hy | hy
      · exact hk.rng y (List.mem_of_mem_take hy)
      · exact hrg y hy
theorem snapE_ok {s : LSt} (hk : LOk s) (size : Nat) (index term : Int) (data : List UInt8) : LOk (snapE size s index term data).2 := by
  unfold snapE
  split
  · exact hk
  rename_i h1
  split
  · exact hk
  rename_i h2
  split
  · exact hk
  rename_i h3
  split
  · exact hk
  rename_i h4
  split
  · exact hk
  have b1 := (idB_iff index).1 (by cases hb : idB index; exact absurd (.inl hb) h1; rfl)
  have b2 := (idB_iff term).1 (by cases hb : idB term; exact absurd (.inr hb) h1; rfl)
  have hB : beginE s ⟨term, index, data⟩ = [] ∨ ∃ (k : Nat) (y : Et), index = s.snap.i + 1 + (k : Int) ∧ s.list[k]? = some y ∧ y.t = term ∧ beginE s ⟨term, index, data⟩ = s.list.drop (k + 1) := by
    unfold beginE
    cases hA : atE s index with
    | none => exact .inl rfl
    | some y =>
      simp only
      by_cases ht : y.t = term
      · rw [if_pos ht]
        obtain ⟨k, hk1, hk2, hk3, hk4⟩ := atE_some hA
        exact .inr ⟨k, y, hk1, hk3, ht, by congr 1; omega⟩
      · rw [if_neg ht]; exact .inl rfl
  have hsub : ∀ y ∈ beginE s ⟨term, index, data⟩, y ∈ s.list := by
    intro y hy
    rcases hB with h | ⟨k, z, _, _, _, h⟩
    · rw [h] at hy; cases hy
    · rw [h] at hy; exact List.mem_of_mem_drop hy
  refine ⟨fun j y hy => ?_, ?_, fun y hy => hk.rng y (hsub y hy), ⟨⟨by simp; omega, by simp; omega⟩, ⟨by simp; omega, by simp; omega⟩, by simp; omega⟩, ⟨(by intro h; cases h), fun _ => ⟨by simp; omega, by simp; omega⟩⟩, fun h => ?_, hk.tv, hk.ht⟩
  · simp only at hy ⊢
    rcases hB with h | ⟨k, z, h5, _, _, h⟩
    · rw [h] at hy; simp at hy
    · rw [h, List.getElem?_drop] at hy
      have := hk.idx _ y hy
      push_cast at this; omega
  · show ((⟨term, index, data⟩ : Et) :: beginE s ⟨term, index, data⟩).Pairwise _
    rcases hB with h | ⟨k, z, h5, h6, h7, h⟩
    · rw [h]; simp
    · rw [h]
      have hkl : k < s.list.length := (List.getElem?_eq_some_iff.1 h6).1
      have hp := (List.pairwise_cons.1 hk.rise).2
      have e : s.list.drop k = z :: s.list.drop (k + 1) := by
        rw [List.drop_eq_getElem_cons hkl]
        congr 1
        exact (List.getElem?_eq_some_iff.1 h6).2
      have hp2 := hp.sublist (List.drop_sublist k s.list)
      rw [e, List.pairwise_cons] at hp2
      refine List.pairwise_cons.2 ⟨fun y hy => ?_, hp2.2⟩
      have := hp2.1 y hy
      show term ≤ y.t
      omega
  · have := hk.hl h
    show beginE s ⟨term, index, data⟩ = []
    rcases hB with h | ⟨k, z, h5, h6, h7, _⟩
    · exact h
    · rw [this] at h6; simp at h6
end Go.Proofs.YtclldpecbocclaaGreat

