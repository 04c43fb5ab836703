/- New, Len, Next, At, Set, Cancel of the timers, said of the list in order. -/
import Derived.Test.YtohbnkghenlnoaaHeap
import Derived.Test.YtohbnkghenlnoaaAbs
namespace Go.Proofs.Ytohbnkghenlnoaa
open Go.RowKit Go.Maps
set_option maxRecDepth 100000
set_option linter.unusedSimpArgs false
set_option linter.unusedVariables false

theorem Agree.keys {ps : List (Int × Int)} {l : List Tm} (h : Agree ps l) : Keys l := by
  unfold Keys
  rw [List.pairwise_iff_getElem]
  intro i j hi hj hij e
  have h1 : g l i = l[i] := g_eq (List.getElem?_eq_getElem hi)
  have h2 : g l j = l[j] := g_eq (List.getElem?_eq_getElem hj)
  have := h.inj hi hj (by rw [h1, h2]; exact e)
  omega

/-- Timers at block a, in the order in which they are due. -/
def TA (w : World) (S : Nat → Prop) (a : Nat) (s : List Tm) : Prop := ∃ v mo l ps, QM w S a v mo l ps ∧ Heap l l.length ∧ l.Perm s ∧ Sorted s

/-- .. behind a call. -/
def TAfter (S : Nat → Prop) (w w' : World) (a : Nat) (s : List Tm) : Prop := ∃ S', TA w' S' a s ∧ (∀ k, S' k → S k ∨ w.heap.size ≤ k) ∧ (∀ k, S k → S' k) ∧ Keeps S w w'

theorem TA.kept {w w1 : World} {S : Nat → Prop} {a : Nat} {s : List Tm} (h : TA w S a s) (hb : ∀ k, S k → w1.heap[k]? = w.heap[k]?) (hs : w.heap.size ≤ w1.heap.size) : TA w1 S a s := by
  obtain ⟨v, mo, l, ps, hq, r⟩ := h
  exact ⟨v, mo, l, ps, hq.kept hb hs, r⟩
theorem TA.under {w w1 : World} {S : Nat → Prop} {a : Nat} {s : List Tm} (h : TA w S a s) (hb : Below w.heap.size w w1) : TA w1 S a s := by
  obtain ⟨v, mo, l, ps, hq, r⟩ := h
  exact ⟨v, mo, l, ps, hq.under hb, r⟩
theorem TA.below {w : World} {S : Nat → Prop} {a : Nat} {s : List Tm} (h : TA w S a s) : ∀ k, S k → k < w.heap.size := by
  obtain ⟨v, mo, l, ps, hq, r⟩ := h
  exact hq.below
theorem TA.len {w : World} {S : Nat → Prop} {a : Nat} {s : List Tm} (h : TA w S a s) : s.length ≤ 1000 := by
  obtain ⟨v, mo, l, ps, hq, _, hp, _⟩ := h
  rw [← hp.length_eq]; exact hq.few
theorem TA.keys {w : World} {S : Nat → Prop} {a : Nat} {s : List Tm} (h : TA w S a s) : Keys s := by
  obtain ⟨v, mo, l, ps, hq, _, hp, _⟩ := h
  exact keys_perm hp hq.agree.keys
theorem TA.sorted {w : World} {S : Nat → Prop} {a : Nat} {s : List Tm} (h : TA w S a s) : Sorted s := by
  obtain ⟨v, mo, l, ps, hq, _, hp, hs⟩ := h
  exact hs
theorem TA.self {w : World} {S : Nat → Prop} {a : Nat} {s : List Tm} (h : TA w S a s) : S a := by
  obtain ⟨v, mo, l, ps, hq, _, hp, hs⟩ := h
  exact hq.self
theorem TA.same {w : World} {S : Nat → Prop} {a : Nat} {s : List Tm} (h : TA w S a s) : TAfter S w w a s := ⟨S, h, fun k hk => .inl hk, fun k hk => hk, .refl S w⟩

/-- A key is there, at its place, or isn't. -/
theorem QM.look {w : World} {S : Nat → Prop} {a : Nat} {v : Value} {mo : Option Nat} {l : List Tm} {ps : List (Int × Int)} (h : QM w S a v mo l ps) (k : Int) :
    (∃ i, i < l.length ∧ (g l i).key = k ∧ plook ps k = some (i : Int)) ∨ ((∀ x ∈ l, x.key ≠ k) ∧ plook ps k = none) := by
  by_cases hk : ∃ i, i < l.length ∧ (g l i).key = k
  · obtain ⟨i, hi, e⟩ := hk
    refine .inl ⟨i, hi, e, ?_⟩
    rw [← e]
    exact plook_some ps h.agree.apart (h.agree.here i hi)
  · have hn : ∀ x ∈ l, x.key ≠ k := fun x hx e => by
      obtain ⟨i, hi, rfl⟩ := List.getElem_of_mem hx
      exact hk ⟨i, hi, by rw [g_eq (List.getElem?_eq_getElem hi)]; exact e⟩
    refine .inr ⟨hn, plook_none fun p hp e => ?_⟩
    obtain ⟨i, hi, rfl⟩ := h.agree.there p hp
    exact hn _ (g_mem hi) e

theorem tlen_any {w : World} {S : Nat → Prop} {a : Nat} {s : List Tm} (h : TA w S a s) :
    Calls Try.prog 18 #[.pointer (some ⟨a, 0, none⟩)] w fun e w' => e = .returned (.int .i64 (s.length : Int)) ∧ w' = w := by
  obtain ⟨v, mo, l, ps, hq, _, hp, _⟩ := h
  have HL := hid (len_any hq)
  rw [hp.length_eq] at HL
  clear hq hp
  go_enter Try.func18, Try.ntmps18
  go_wp2_with (go_at_call 27; refine HL.out.mono ?_; rintro e w' ⟨rfl, rfl⟩)
  go_ret
  exact ⟨rfl, rfl⟩

theorem root_is {l s : List Tm} (hh : Heap l l.length) (hp : l.Perm s) (hs : Sorted s) {x : Tm} {r : List Tm} (e : s = x :: r) : g l 0 = x ∧ 0 < l.length := by
  have hlen := hp.length_eq
  have hl : 0 < l.length := by rw [hlen, e]; simp
  refine ⟨?_, hl⟩
  have h1 : le (g l 0) x := hh.min (hp.mem_iff.2 (by rw [e]; simp))
  have h2 : le x (g l 0) := by
    have hm := hp.mem_iff.1 (g_mem hl)
    rw [e] at hm
    rcases List.mem_cons.1 hm with e2 | hm
    · rw [e2]; exact le_refl _
    · rw [e] at hs
      exact le_of_bef ((List.pairwise_cons.1 hs).1 _ hm)
  exact le_antisymm h1 h2

set_option maxHeartbeats 400000 in
theorem next_any {w : World} {S : Nat → Prop} {a : Nat} {s : List Tm} (h : TA w S a s) :
    Calls Try.prog 19 #[.pointer (some ⟨a, 0, none⟩)] w fun e w' => e = .returned (.int .i64 (nextL s)) ∧ w' = w := by
  have HL := hid (tlen_any h)
  obtain ⟨v, mo, l, ps, hq, hh, hp, hs⟩ := h
  cases s with
  | nil =>
    clear hq hh hp hs
    go_enter Try.func19, Try.ntmps19
    go_wp2_with (go_at_call 18; refine HL.out.mono ?_; rintro e w' ⟨rfl, rfl⟩)
    go_ret
    exact ⟨rfl, rfl⟩
  | cons x r =>
    obtain ⟨e, hl⟩ := root_is hh hp hs rfl
    obtain ⟨oa, cap, rfl, hcap, hcm, hoa, _⟩ := hq.shape
    obtain ⟨b, rfl, _, _⟩ := hoa hl
    have c0 := hq.c0
    obtain ⟨_, i1⟩ := hq.at_ 0 hl
    rw [e] at i1
    have i1' : w.cell? ⟨b, 1, none⟩ = some (.int .i64 x.tick) := by simpa using i1
    have hlz : (0 : Int) < (l.length : Int) := by omega
    have hnz : ¬ (((x :: r).length : Nat) : Int) = 0 := by simp; omega
    generalize (x :: r).length = n at HL hnz
    clear hq hh hp hs hoa e
    go_enter Try.func19, Try.ntmps19
    go_wp2_with (go_at_call 18; refine HL.out.mono ?_; rintro e w' ⟨rfl, rfl⟩)
    go_ret
    exact ⟨rfl, rfl⟩

set_option maxHeartbeats 400000 in
theorem at_any {w : World} {S : Nat → Prop} {a : Nat} {s : List Tm} (h : TA w S a s) (k : Int) (hk : I64 k) :
    Calls Try.prog 16 #[.pointer (some ⟨a, 0, none⟩), .int .i64 k] w fun e w' => e = .returned (.int .i64 (atL s k)) ∧ w' = w := by
  have hkeys := h.keys
  obtain ⟨v, mo, l, ps, hq, hh, hp, hs⟩ := h
  have c1 := hq.c1
  have hlook := hq.map.look_ok k hk
  rcases hq.look k with ⟨i, hi, hki, hpl⟩ | ⟨hn, hpl⟩
  · have hat : Hid (atL s k = (g l i).tick) := by show _ = _; rw [← hki]; exact atL_mem hkeys (hp.mem_iff.1 (g_mem hi))
    rw [pval, hpl] at hlook
    simp only [Option.getD_some, Option.isSome_some] at hlook
    obtain ⟨oa, cap, rfl, hcap, hcm, hoa, _⟩ := hq.shape
    obtain ⟨b, rfl, _, _⟩ := hoa (by omega)
    have c0 := hq.c0
    obtain ⟨_, i1⟩ := hq.at_ i hi
    have hiz : (i : Int) < (l.length : Int) := by omega
    generalize g l i = x at *
    clear hq hh hp hs hoa hkeys hpl hki
    go_enter Try.func16, Try.ntmps16
    go_wp2
    go_ret
    exact ⟨ret_int hat.out.symm, rfl⟩
  · have hat : Hid (atL s k = -1) := atL_none (fun x hx => hn x (hp.mem_iff.2 hx))
    rw [pval, hpl] at hlook
    simp only [Option.getD_none, Option.isSome_none] at hlook
    clear hq hh hp hs hkeys hpl hn
    go_enter Try.func16, Try.ntmps16
    go_wp2
    go_ret
    exact ⟨ret_int hat.out.symm, rfl⟩

end Go.Proofs.Ytohbnkghenlnoaa
