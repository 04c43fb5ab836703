/- What TimerOrder asks of the list in order. -/
import Derived.Test.YtohbnkghenlnoaaFrame
import Derived.Test.YtohbnkghenlnoaaRef
namespace Go.Proofs.Ytohbnkghenlnoaa
open Go.RowKit Go.Maps
set_option linter.unusedSimpArgs false
set_option linter.unusedVariables false

/-- What the first i calls of a script have set. -/
structure Ord (ops : List OpV) (s : List Tm) (i : Nat) : Prop where
  has : ∀ j (h : j < ops.length), j < i → hasL s ops[j].key = true
  come : ∀ x ∈ s, ∃ j, ∃ h : j < ops.length, j < i ∧ ops[j].key = x.key
  tick : ∀ x ∈ s, 0 ≤ x.tick ∧ x.tick ≤ 999
  len : s.length ≤ i

theorem Ord.zero (ops : List OpV) : Ord ops [] 0 := ⟨fun j h hj => by omega, fun x hx => by simp at hx, fun x hx => by simp at hx, by simp⟩

theorem len_del2 {s : List Tm} {k : Int} (hk : Keys s) (h : hasL s k = true) : (del s k).length + 1 = s.length := by
  obtain ⟨x, hx, rfl⟩ := hasL_iff.1 h
  obtain ⟨i, hi, rfl⟩ := List.getElem_of_mem hx
  have e : g s i = s[i] := g_eq (List.getElem?_eq_getElem hi)
  have := (self_perm s i hk hi).length_eq
  rw [e] at this
  simpa using this.symm

theorem Ord.next {ops : List OpV} {s : List Tm} {i : Nat} (h : Ord ops s i) (hk : Keys s) (hi : i < ops.length) (hi3 : i < 300) (t : Int) (h0 : 0 ≤ t) (h1 : t ≤ 999) :
    setE s ops[i].key t = 0 ∧ Ord ops (setL s ops[i].key t) (i + 1) ∧
    ((atL s ops[i].key < 0 ∧ (setL s ops[i].key t).length = s.length + 1) ∨ (0 ≤ atL s ops[i].key ∧ (setL s ops[i].key t).length = s.length)) := by
  have hlen := h.len
  have hE : setE s ops[i].key t = 0 := by
    rw [setE, if_neg (by omega)]
    split
    · rfl
    · rw [if_neg (by omega)]
  have hS : setL s ops[i].key t = ins ⟨ops[i].key, t⟩ (del s ops[i].key) := by rw [setL, hE, if_pos rfl]
  have hlen2 : (atL s ops[i].key < 0 ∧ (setL s ops[i].key t).length = s.length + 1) ∨ (0 ≤ atL s ops[i].key ∧ (setL s ops[i].key t).length = s.length) := by
    rw [hS, len_ins]
    cases hh : hasL s ops[i].key with
    | true =>
      right
      have hl := len_del2 hk hh
      obtain ⟨x, hx, e⟩ := hasL_iff.1 hh
      rw [← e] at hl ⊢
      rw [atL_mem hk hx]
      exact ⟨(h.tick x hx).1, by omega⟩
    | false =>
      left
      rw [atL_none (hasL_false.1 hh), del_none (hasL_false.1 hh)]
      exact ⟨by omega, rfl⟩
  refine ⟨hE, ⟨fun j hj hji => ?_, fun x hx => ?_, fun x hx => ?_, ?_⟩, hlen2⟩
  · rw [hS, hasL_iff]
    by_cases e : ops[j].key = ops[i].key
    · exact ⟨⟨ops[i].key, t⟩, mem_ins.2 (.inl rfl), e.symm⟩
    · have hji' : j < i := by
        rcases Nat.lt_or_ge j i with h | h
        · exact h
        · have : j = i := by omega
          subst this
          exact absurd rfl e
      obtain ⟨x, hx, ex⟩ := hasL_iff.1 (h.has j hj hji')
      exact ⟨x, mem_ins.2 (.inr (mem_del.2 ⟨hx, by rw [ex]; exact e⟩)), ex⟩
  · rw [hS] at hx
    rcases mem_ins.1 hx with rfl | hx
    · exact ⟨i, hi, by omega, rfl⟩
    · obtain ⟨j, hj, hji, e⟩ := h.come x (mem_del.1 hx).1
      exact ⟨j, hj, by omega, e⟩
  · rw [hS] at hx
    rcases mem_ins.1 hx with rfl | hx
    · exact ⟨h0, h1⟩
    · exact h.tick x (mem_del.1 hx).1
  · rcases hlen2 with ⟨_, h⟩ | ⟨_, h⟩ <;> omega

/-- What was told last: nothing, or the timer ahead. -/
def lastT (s : List Tm) (d : Nat) : Tm := if d = 0 then ⟨0, -1⟩ else g s (d - 1)

theorem lastT_next {s : List Tm} (hs : Sorted s) (ht : ∀ x ∈ s, 0 ≤ x.tick ∧ x.tick ≤ 999) {d : Nat} (hd : d < s.length) :
    (lastT s d).tick ≤ (g s d).tick ∧ ((g s d).tick = (lastT s d).tick → (lastT s d).key < (g s d).key) ∧ lastT s (d + 1) = g s d := by
  have hx := ht _ (g_mem hd)
  refine ⟨?_, ?_, by rw [lastT, if_neg (by omega)]; rfl⟩
  all_goals
    unfold lastT
    split
    · rename_i h0
      first
        | (simp; omega)
        | (intro e; simp at e; omega)
    · rename_i h0
      have hb : bef (g s (d - 1)) (g s d) = true := by
        have := List.pairwise_iff_getElem.1 hs (d - 1) d (by omega) hd (by omega)
        rwa [← g_eq (List.getElem?_eq_getElem (show d - 1 < s.length by omega)), ← g_eq (List.getElem?_eq_getElem hd)] at this
      rw [bef_iff] at hb
      omega

theorem g_drop (s : List Tm) (d k : Nat) : g (s.drop d) k = g s (d + k) := by simp [g, List.getD_eq_getElem?_getD]

/-- The k-th that is due now. -/
theorem due_at {s : List Tm} {d : Nat} {now : Int} {k : Nat} (hk : k < (dueL (s.drop d) now).length) : d + k < s.length ∧ g (dueL (s.drop d) now) k = g s (d + k) ∧ (g s (d + k)).tick ≤ now := by
  have hp : (dueL (s.drop d) now) <+: (s.drop d) := List.takeWhile_prefix _
  have hl := hp.length_le
  rw [List.length_drop] at hl
  have e : g (dueL (s.drop d) now) k = g s (d + k) := by
    rw [← g_drop]
    obtain ⟨t, ht⟩ := hp
    have h1 : g (dueL (s.drop d) now ++ t) k = g (dueL (s.drop d) now) k := by simp [g, List.getD_eq_getElem?_getD, List.getElem?_append_left hk]
    rw [ht] at h1
    exact h1.symm
  refine ⟨by omega, e, ?_⟩
  rw [← e]
  have hm := g_mem hk
  have := List.all_takeWhile (l := s.drop d) (p := fun x => decide (x.tick ≤ now))
  rw [List.all_eq_true] at this
  simpa using this _ hm

theorem rest_drop (s : List Tm) (d : Nat) (now : Int) : restL (s.drop d) now = s.drop (d + (dueL (s.drop d) now).length) := by
  have h := List.takeWhile_append_dropWhile (p := fun x : Tm => decide (x.tick ≤ now)) (l := s.drop d)
  have h2 : s.drop (d + (dueL (s.drop d) now).length) = (s.drop d).drop (dueL (s.drop d) now).length := by rw [List.drop_drop]
  rw [h2]
  unfold restL dueL
  conv => rhs; rw [← h]
  rw [List.drop_append_of_le_length (by rw [h]; exact Nat.le_refl _)]
  simp

/-- A timer that was told is there no more. -/
theorem gone {s : List Tm} (hk : Keys s) {d e : Nat} (hd : d < s.length) (he : d < e) : atL (s.drop e) (g s d).key = -1 := by
  refine atL_none fun x hx hxe => ?_
  obtain ⟨j, hj, rfl⟩ := List.getElem_of_mem hx
  rw [List.length_drop] at hj
  have h1 := List.pairwise_iff_getElem.1 hk d (e + j) hd (by omega) (by omega)
  rw [List.getElem_drop] at hxe
  apply h1
  rw [hxe, ← g_eq (List.getElem?_eq_getElem hd)]

/-- What is wanted of the first j keys. -/
def wantL (ops : List OpV) (s : List Tm) (j : Nat) : List Int := (ops.take j).map fun o => atL s o.key
theorem wantL_next {ops : List OpV} {s : List Tm} {j : Nat} (hj : j < ops.length) : wantL ops s (j + 1) = wantL ops s j ++ [atL s ops[j].key] := by
  unfold wantL
  rw [List.take_add_one, List.getElem?_eq_getElem hj, List.map_append, Option.toList_some]
  rfl

/-- What the inner loop has found of a key, behind j of the script's. -/
def foundI (ops : List OpV) (x : Tm) (j : Nat) : Int := if (ops.take j).any (fun o => o.key == x.key) then x.tick else -1
theorem foundI_next {ops : List OpV} {x : Tm} {j : Nat} (hj : j < ops.length) : foundI ops x (j + 1) = if ops[j].key = x.key then x.tick else foundI ops x j := by
  unfold foundI
  rw [List.take_add_one, List.getElem?_eq_getElem hj, Option.toList_some, List.any_append]
  by_cases e : ops[j].key = x.key
  · simp [e]
  · simp [e]
theorem foundI_all {ops : List OpV} {s : List Tm} {m : Nat} (h : Ord ops s m) {x : Tm} (hx : x ∈ s) : foundI ops x m = x.tick := by
  unfold foundI
  obtain ⟨j, hj, hjm, e⟩ := h.come x hx
  rw [if_pos]
  rw [List.any_eq_true]
  refine ⟨ops[j], ?_, by simpa using e⟩
  rw [List.mem_take_iff_getElem]
  exact ⟨j, by omega, rfl⟩

end Go.Proofs.Ytohbnkghenlnoaa
