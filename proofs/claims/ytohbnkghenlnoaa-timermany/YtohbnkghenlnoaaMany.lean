/- What TimerMany asks of the list in order. -/
import Derived.Test.YtohbnkghenlnoaaShown
namespace Go.Proofs.Ytohbnkghenlnoaa
open Go.RowKit Go.Maps
set_option maxRecDepth 100000
set_option linter.unusedSimpArgs false
set_option linter.unusedVariables false

theorem len_del {s : List Tm} {k : Int} (hk : Keys s) (h : hasL s k = true) : (del s k).length + 1 = s.length := by
  obtain ⟨x, hx, rfl⟩ := hasL_iff.1 h
  obtain ⟨i, hi, rfl⟩ := List.getElem_of_mem hx
  have e : g s i = s[i] := g_eq (List.getElem?_eq_getElem hi)
  have := (self_perm s i hk hi).length_eq
  rw [e] at this
  simpa using this.symm

/-- i timers of the keys from 0 on, and no more than 1000. -/
structure ManyL (s : List Tm) (i : Nat) : Prop where
  len : s.length = min i 1000
  has : ∀ k : Int, hasL s k = true ↔ 0 ≤ k ∧ k < (min i 1000 : Nat)
  tick : ∀ x ∈ s, x.tick ≤ 1000000000

theorem ManyL.zero : ManyL [] 0 := ⟨rfl, fun k => by simp [hasL], fun x hx => by simp at hx⟩

theorem ManyL.next {s : List Tm} {i : Nat} (h : ManyL s i) (t : Int) (h0 : 0 ≤ t) (h1 : t ≤ 1000000000) :
    setE s (i : Int) t = (if i < 1000 then 0 else 3) ∧ ManyL (setL s (i : Int) t) (i + 1) := by
  have hno : hasL s (i : Int) = false := by
    cases e : hasL s (i : Int) with
    | false => rfl
    | true => have := (h.has _).1 e; omega
  have htt : ¬ (t < 0 ∨ 1000000000 < t) := by omega
  have hl := h.len
  by_cases hi : i < 1000
  · have hE : setE s (i : Int) t = 0 := by rw [setE, if_neg htt, hno, if_neg (by simp), if_neg (by omega)]
    refine ⟨by rw [hE, if_pos hi], ?_⟩
    have hd : del s (i : Int) = s := del_none (hasL_false.1 hno)
    rw [setL, hE, if_pos rfl, hd]
    refine ⟨by rw [len_ins]; omega, fun k => ?_, fun x hx => ?_⟩
    · rw [hasL_iff]
      constructor
      · rintro ⟨x, hx, rfl⟩
        rcases mem_ins.1 hx with rfl | hx
        · simp; omega
        · have := (h.has x.key).1 (hasL_iff.2 ⟨x, hx, rfl⟩); omega
      · rintro ⟨a, b⟩
        by_cases e : k = (i : Int)
        · exact ⟨⟨i, t⟩, mem_ins.2 (.inl rfl), e.symm⟩
        · obtain ⟨x, hx, e2⟩ := hasL_iff.1 ((h.has k).2 ⟨a, by omega⟩)
          exact ⟨x, mem_ins.2 (.inr hx), e2⟩
    · rcases mem_ins.1 hx with rfl | hx
      · exact h1
      · exact h.tick x hx
  · have hE : setE s (i : Int) t = 3 := by rw [setE, if_neg htt, hno, if_neg (by simp), if_pos (by omega)]
    refine ⟨by rw [hE, if_neg hi], ?_⟩
    rw [setL, hE, if_neg (by decide)]
    exact ⟨by rw [hl]; omega, fun k => by rw [h.has k]; omega, h.tick⟩

theorem due_all {s : List Tm} {now : Int} (h : ∀ x ∈ s, x.tick ≤ now) : dueL s now = s := by
  have := (due_split now s s.length (Nat.le_refl _) (fun x hx => h x (List.mem_of_mem_take hx)) (fun x hx => by simp at hx)).1
  rwa [List.take_length] at this

/-- What is asked behind the loop: each answer, one behind the other. -/
theorem ManyL.ends {s : List Tm} {n : Nat} (h : ManyL s n) (hk : Keys s) (k t : Int) (hk0 : 0 ≤ k) (hk1 : k < (min n 1000 : Nat)) (h0 : 0 ≤ t) (h1 : t ≤ 1000000000) :
    setE s k t = 0 ∧ atL (setL s k t) k = t ∧ (setL s k t).length = min n 1000 ∧ cancE (setL s k t) k = 0 ∧ setE (del (setL s k t) k) (-1) t = 0 ∧
    (setL (del (setL s k t) k) (-1) t).length = min n 1000 ∧ dueL (setL (del (setL s k t) k) (-1) t) 1000000000 = setL (del (setL s k t) k) (-1) t := by
  have hhas : hasL s k = true := (h.has k).2 ⟨hk0, hk1⟩
  have htt : ¬ (t < 0 ∨ 1000000000 < t) := by omega
  have hE : setE s k t = 0 := by rw [setE, if_neg htt, if_pos hhas]
  have hS : setL s k t = ins ⟨k, t⟩ (del s k) := by rw [setL, hE, if_pos rfl]
  have hnd : ∀ y ∈ del s k, k ≠ y.key := fun y hy e => (mem_del.1 hy).2 e.symm
  have hkd := del_keys hk k
  have hki : Keys (ins ⟨k, t⟩ (del s k)) := keys_perm (ins_perm _ _).symm (cons_keys hkd hnd)
  have hld := len_del hk hhas
  have hl := h.len
  have hli : (ins ⟨k, t⟩ (del s k)).length = min n 1000 := by rw [len_ins]; omega
  have hhas2 : hasL (ins ⟨k, t⟩ (del s k)) k = true := hasL_iff.2 ⟨⟨k, t⟩, mem_ins.2 (.inl rfl), rfl⟩
  have hl3 := len_del hki hhas2
  have hno : ∀ x ∈ del (ins ⟨k, t⟩ (del s k)) k, x.key ≠ -1 := fun x hx e => by
    obtain ⟨hx, hne⟩ := mem_del.1 hx
    rcases mem_ins.1 hx with rfl | hx
    · exact hne rfl
    · have := (h.has x.key).1 (hasL_iff.2 ⟨x, (mem_del.1 hx).1, rfl⟩)
      omega
  have hE2 : setE (del (ins ⟨k, t⟩ (del s k)) k) (-1) t = 0 := by rw [setE, if_neg htt, hasL_false.2 hno, if_neg (by simp), if_neg (by omega)]
  have hS2 : setL (del (ins ⟨k, t⟩ (del s k)) k) (-1) t = ins ⟨-1, t⟩ (del (ins ⟨k, t⟩ (del s k)) k) := by rw [setL, hE2, if_pos rfl, del_none hno]
  refine ⟨hE, ?_, by rw [hS, hli], by rw [cancE, hS, if_pos hhas2], by rw [hS]; exact hE2, by rw [hS, hS2, len_ins]; omega, ?_⟩
  · rw [hS]
    exact atL_mem hki (x := ⟨k, t⟩) (mem_ins.2 (.inl rfl))
  · rw [hS, hS2]
    refine due_all fun x hx => ?_
    rcases mem_ins.1 hx with rfl | hx
    · exact h1
    · rcases mem_ins.1 (mem_del.1 hx).1 with rfl | hx
      · exact h1
      · exact h.tick x (mem_del.1 hx).1

end Go.Proofs.Ytohbnkghenlnoaa
