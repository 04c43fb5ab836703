/- The program's timers and the document's, side by side. -/
import Derived.Test.YtohbnkghenlnoaaRset
import Derived.Test.YtohbnkghenlnoaaFrame
namespace Go.Proofs.Ytohbnkghenlnoaa
open Go.RowKit Go.Maps
set_option maxRecDepth 100000
set_option linter.unusedSimpArgs false
set_option linter.unusedVariables false

/-- Of the world W, what stands in F's blocks, and all but memory, is as it was. -/
structure Frm (F : Nat → Prop) (W w : World) : Prop where
  lt : ∀ k, F k → k < W.heap.size
  os : w.os = W.os
  tape : w.tape = W.tape
  output : w.output = W.output
  size : W.heap.size ≤ w.heap.size
  block : ∀ k, F k → w.heap[k]? = W.heap[k]?

theorem Frm.of_below {W w : World} (h : Below W.heap.size W w) : Frm (fun k => k < W.heap.size) W w := ⟨fun _ h => h, h.os, h.tape, h.output, h.size, h.block⟩
theorem Frm.below {W w : World} (h : Frm (fun k => k < W.heap.size) W w) : Below W.heap.size W w := ⟨h.os, h.tape, h.output, h.size, h.block⟩
theorem Frm.under {F : Nat → Prop} {W w w1 : World} (h : Frm F W w) (hb : Below w.heap.size w w1) : Frm F W w1 :=
  ⟨h.lt, hb.os.trans h.os, hb.tape.trans h.tape, hb.output.trans h.output, Nat.le_trans h.size hb.size, fun k hk => (hb.block k (Nat.lt_of_lt_of_le (h.lt k hk) h.size)).trans (h.block k hk)⟩
theorem Frm.keeps {F S : Nat → Prop} {W w w1 : World} (h : Frm F W w) (hS : ∀ k, S k → ¬ F k) (hk : Keeps S w w1) : Frm F W w1 :=
  ⟨h.lt, hk.os.trans h.os, hk.tape.trans h.tape, hk.output.trans h.output, Nat.le_trans h.size hk.size, fun k hf => (hk.block k (Nat.lt_of_lt_of_le (h.lt k hf) h.size) (fun hs => hS k hs hf)).trans (h.block k hf)⟩

/-- The program's timers s', the document's s, apart from each other and from F. -/
def Half (F : Nat → Prop) (W w : World) (a r : Nat) (s s' : List Tm) : Prop :=
  ∃ S T v, TA w S a s' ∧ RT w T r v s ∧ Keys s ∧ (∀ k, S k → ¬ T k) ∧ (∀ k, S k → ¬ F k) ∧ (∀ k, T k → ¬ F k) ∧ Frm F W w
/-- Both have the same. -/
def Two (F : Nat → Prop) (W w : World) (a r : Nat) (s : List Tm) : Prop := Half F W w a r s s

theorem Half.frm {F : Nat → Prop} {W w : World} {a r : Nat} {s s' : List Tm} (h : Half F W w a r s s') : Frm F W w := by
  obtain ⟨S, T, v, _, _, _, _, _, _, h⟩ := h; exact h
theorem Half.under {F : Nat → Prop} {W w w1 : World} {a r : Nat} {s s' : List Tm} (h : Half F W w a r s s') (hb : Below w.heap.size w w1) : Half F W w1 a r s s' := by
  obtain ⟨S, T, v, h1, h2, h3, h4, h5, h6, h7⟩ := h
  exact ⟨S, T, v, h1.under hb, h2.under hb, h3, h4, h5, h6, h7.under hb⟩
theorem Half.drewN {F : Nat → Prop} {W w : World} {a r : Nat} {s s' : List Tm} (h : Half F W w a r s s') (n : Nat) : Half F W (w.drewN n) a r s s' := h.under (below_drewN (Below.refl _ _) n)
theorem Half.drew {F : Nat → Prop} {W w : World} {a r : Nat} {s s' : List Tm} (h : Half F W w a r s s') : Half F W w.drew a r s s' := h.under (Below.refl _ _).drew

/-- The program's are turned. -/
theorem Half.first {F S T : Nat → Prop} {W w w1 : World} {a r : Nat} {s s' : List Tm} {v : Value} (hT : RT w T r v s) (hk : Keys s) (hd : ∀ k, S k → ¬ T k) (hS : ∀ k, S k → ¬ F k) (hT0 : ∀ k, T k → ¬ F k) (hb : Frm F W w) (h : TAfter S w w1 a s') : Half F W w1 a r s s' := by
  obtain ⟨S', h1, h2, h3, h4⟩ := h
  refine ⟨S', T, v, h1, hT.kept (fun k hk => h4.block k (hT.below k hk) (fun hs => hd k hs hk)) h4.size, hk, fun k hs ht => ?_, fun k hs hf => ?_, hT0, hb.keeps hS h4⟩
  · rcases h2 k hs with h | h
    · exact hd k h ht
    · have := hT.below k ht; omega
  · rcases h2 k hs with h | h
    · exact hS k h hf
    · have := hb.lt k hf; have := hb.size; omega
/-- The document's are turned as well. -/
theorem Half.second {F S T : Nat → Prop} {W w w1 : World} {a r : Nat} {s' : List Tm} (h1 : TA w S a s') (hd : ∀ k, S k → ¬ T k) (hS : ∀ k, S k → ¬ F k) (hT0 : ∀ k, T k → ¬ F k) (hb : Frm F W w) (h : RAfter T w w1 r s') : Two F W w1 a r s' := by
  obtain ⟨T', v', r1, r2, r3, r4⟩ := h
  refine ⟨S, T', v', h1.kept (fun k hs => r4.block k (h1.below k hs) (hd k hs)) r4.size, r1, h1.keys, fun k hs ht => ?_, hS, fun k ht hf => ?_, hb.keeps hT0 r4⟩
  · rcases r2 k ht with h | h
    · exact hd k hs h
    · have := h1.below k hs; omega
  · rcases r2 k ht with h | h
    · exact hT0 k h hf
    · have := hb.lt k hf; have := hb.size; omega

theorem two_set {F : Nat → Prop} {W w : World} {a r : Nat} {s : List Tm} (h : Two F W w a r s) (k t : Int) (hk : I64 k) :
    Calls Try.prog 9 #[.pointer (some ⟨a, 0, none⟩), .int .i64 k, .int .i64 t] w fun e w' => e = .returned (.int .i64 (setE s k t)) ∧ Half F W w' a r s (setL s k t) := by
  obtain ⟨S, T, v, h1, h2, h3, h4, h5, h6, h7⟩ := h
  exact (set_any h1 k t hk).mono fun e w' ⟨he, hA⟩ => ⟨he, Half.first h2 h3 h4 h5 h6 h7 hA⟩
theorem two_rset {F : Nat → Prop} {W w : World} {a r : Nat} {s : List Tm} (k t : Int) (h : Half F W w a r s (setL s k t)) :
    Calls Try.prog 10 #[.pointer (some ⟨r, 0, none⟩), .int .i64 k, .int .i64 t] w fun e w' => e = .returned (.int .i64 (setE s k t)) ∧ Two F W w' a r (setL s k t) := by
  obtain ⟨S, T, v, h1, h2, h3, h4, h5, h6, h7⟩ := h
  exact (rset_any h2 h3 k t).mono fun e w' ⟨he, hA⟩ => ⟨he, Half.second h1 h4 h5 h6 h7 hA⟩
theorem two_cancel {F : Nat → Prop} {W w : World} {a r : Nat} {s : List Tm} (h : Two F W w a r s) (k : Int) (hk : I64 k) :
    Calls Try.prog 11 #[.pointer (some ⟨a, 0, none⟩), .int .i64 k] w fun e w' => e = .returned (.int .i64 (cancE s k)) ∧ Half F W w' a r s (del s k) := by
  obtain ⟨S, T, v, h1, h2, h3, h4, h5, h6, h7⟩ := h
  exact (cancel_any h1 k hk).mono fun e w' ⟨he, hA⟩ => ⟨he, Half.first h2 h3 h4 h5 h6 h7 hA⟩
theorem two_rcancel {F : Nat → Prop} {W w : World} {a r : Nat} {s : List Tm} (k : Int) (h : Half F W w a r s (del s k)) :
    Calls Try.prog 12 #[.pointer (some ⟨r, 0, none⟩), .int .i64 k] w fun e w' => e = .returned (.int .i64 (cancE s k)) ∧ Two F W w' a r (del s k) := by
  obtain ⟨S, T, v, h1, h2, h3, h4, h5, h6, h7⟩ := h
  exact (rcancel_any h2 h3 k).mono fun e w' ⟨he, hA⟩ => ⟨he, Half.second h1 h4 h5 h6 h7 hA⟩
theorem two_at {F : Nat → Prop} {W w : World} {a r : Nat} {s : List Tm} (h : Two F W w a r s) (k : Int) (hk : I64 k) :
    Calls Try.prog 16 #[.pointer (some ⟨a, 0, none⟩), .int .i64 k] w fun e w' => e = .returned (.int .i64 (atL s k)) ∧ w' = w := by
  obtain ⟨S, T, v, h1, h2, _⟩ := h
  exact at_any h1 k hk
theorem two_rat {F : Nat → Prop} {W w : World} {a r : Nat} {s : List Tm} (h : Two F W w a r s) (k : Int) :
    Calls Try.prog 17 #[.pointer (some ⟨r, 0, none⟩), .int .i64 k] w fun e w' => e = .returned (.int .i64 (atL s k)) ∧ w' = w := by
  obtain ⟨S, T, v, h1, h2, h3, _⟩ := h
  exact rat_any h2 h3 k
theorem two_len {F : Nat → Prop} {W w : World} {a r : Nat} {s : List Tm} (h : Two F W w a r s) : Calls Try.prog 18 #[.pointer (some ⟨a, 0, none⟩)] w fun e w' => e = .returned (.int .i64 (s.length : Int)) ∧ w' = w := by
  obtain ⟨S, T, v, h1, h2, _⟩ := h
  exact tlen_any h1
theorem two_next {F : Nat → Prop} {W w : World} {a r : Nat} {s : List Tm} (h : Two F W w a r s) : Calls Try.prog 19 #[.pointer (some ⟨a, 0, none⟩)] w fun e w' => e = .returned (.int .i64 (nextL s)) ∧ w' = w := by
  obtain ⟨S, T, v, h1, h2, _⟩ := h
  exact next_any h1
theorem two_rnext {F : Nat → Prop} {W w : World} {a r : Nat} {s : List Tm} (h : Two F W w a r s) : Calls Try.prog 20 #[.pointer (some ⟨r, 0, none⟩)] w fun e w' => e = .returned (.int .i64 (nextL s)) ∧ w' = w := by
  obtain ⟨S, T, v, h1, h2, _⟩ := h
  exact rnext_any h2
theorem two_cell {F : Nat → Prop} {W w : World} {a r : Nat} {s : List Tm} (h : Two F W w a r s) : ∃ oa cap, w.cell? ⟨r, 0, none⟩ = some (.slice oa s.length cap) := by
  obtain ⟨S, T, v, h1, h2, _⟩ := h
  obtain ⟨oa, cap, rfl, _⟩ := h2.row
  exact ⟨oa, cap, h2.c0⟩

/-- The program's Due is behind us: its row lies in w. -/
def DueHalf (F : Nat → Prop) (W w : World) (a r : Nat) (s : List Tm) (now : Int) (v1 : Value) : Prop :=
  ∃ S T v B, TA w S a (restL s now) ∧ RT w T r v s ∧ (∀ k, S k → ¬ T k) ∧ (∀ k, S k → ¬ F k) ∧ (∀ k, T k → ¬ F k) ∧ Frm F W w ∧ w.ownsRow B 3 1 v1 (dueL s now).length (cellsI ((dueL s now).map (·.key))) ∧ (∀ k, T k → k < B) ∧ (dueL s now).length ≤ 1000
def DueBoth (F : Nat → Prop) (W w : World) (a r : Nat) (s : List Tm) (now : Int) (v1 v2 : Value) : Prop :=
  Two F W w a r (restL s now) ∧ IntsAt w v1 ((dueL s now).map (·.key)) ∧ IntsAt w v2 ((dueL s now).map (·.key)) ∧ (dueL s now).length ≤ 1000

theorem row_under {w w1 : World} {B n : Nat} {e : TypeId} {size : Nat} {v : Value} {xs : List Value} (h : w.ownsRow B e size v n xs) (hb : Below w.heap.size w w1) : w1.ownsRow B e size v n xs := by
  refine ⟨h.1, ?_⟩
  rcases h.2 with h0 | ⟨b', cap', cur, e0, hb0, hg0, rest⟩
  · exact .inl h0
  · exact .inr ⟨b', cap', cur, e0, hb0, (hb.block b' (Array.getElem?_eq_some_iff.1 hg0).1).trans hg0, rest⟩
theorem DueHalf.under {F : Nat → Prop} {W w w1 : World} {a r : Nat} {s : List Tm} {now : Int} {v1 : Value} (h : DueHalf F W w a r s now v1) (hb : Below w.heap.size w w1) : DueHalf F W w1 a r s now v1 := by
  obtain ⟨S, T, v, B, h1, h2, h3, h4, h5, h6, h7, h8, h9⟩ := h
  exact ⟨S, T, v, B, h1.under hb, h2.under hb, h3, h4, h5, h6.under hb, row_under h7 hb, h8, h9⟩

theorem two_due {F : Nat → Prop} {W w : World} {a r : Nat} {s : List Tm} (h : Two F W w a r s) (now : Int) :
    Calls Try.prog 14 #[.pointer (some ⟨a, 0, none⟩), .int .i64 now] w fun e w' => ∃ oa cap, e = .returned (.slice oa (dueL s now).length cap) ∧ DueHalf F W w' a r s now (.slice oa (dueL s now).length cap) ∧ Frm F W w' := by
  obtain ⟨S, T, v, h1, h2, h3, h4, h5, h6, h7⟩ := h
  refine (due_any h1 now).mono ?_
  rintro e w' ⟨v1, rfl, hr, ht, hk⟩
  rw [keyCells_eq] at hr
  obtain ⟨oa, cap, rfl⟩ := row_shape hr
  have hf := h7.keeps h5 hk
  exact ⟨oa, cap, rfl, ⟨S, T, v, w.heap.size, ht, h2.kept (fun k hT => hk.block k (h2.below k hT) (fun hs => h4 k hs hT)) hk.size, h4, h5, h6, hf, hr, h2.below, Nat.le_trans (List.takeWhile_prefix _).length_le h1.len⟩, hf⟩
theorem two_rdue {F : Nat → Prop} {W w : World} {a r : Nat} {s : List Tm} {now : Int} {v1 : Value} (h : DueHalf F W w a r s now v1) :
    Calls Try.prog 15 #[.pointer (some ⟨r, 0, none⟩), .int .i64 now] w fun e w' => ∃ ob cb, e = .returned (.slice ob (dueL s now).length cb) ∧ DueBoth F W w' a r s now v1 (.slice ob (dueL s now).length cb) := by
  obtain ⟨S, T, v, B, h1, h2, h3, h4, h5, h6, h7, h8, h9⟩ := h
  refine (rdue_any h2 now).mono ?_
  rintro e w' ⟨v2, rfl, hr, ⟨u, hu⟩, hk⟩
  rw [keyCells_eq] at hr
  obtain ⟨ob, cb, rfl⟩ := row_shape hr
  have hr1 : w'.ownsRow B 3 1 v1 (dueL s now).length (cellsI ((dueL s now).map (·.key))) := by
    refine ⟨h7.1, ?_⟩
    rcases h7.2 with h0 | ⟨b', cap', cur, e0, hb0, hg0, rest⟩
    · exact .inl h0
    · exact .inr ⟨b', cap', cur, e0, hb0, (hk.block b' (Array.getElem?_eq_some_iff.1 hg0).1 (fun hT => by have := h8 b' hT; omega)).trans hg0, rest⟩
  have hta : TA w' S a (restL s now) := h1.kept (fun k hs => hk.block k (h1.below k hs) (h3 k hs)) hk.size
  exact ⟨ob, cb, rfl, ⟨S, T, u, hta, hu, hta.keys, h3, h4, h5, h6.keeps h5 hk⟩, .of_row hr1 (by simp), .of_row hr (by simp), h9⟩
theorem two_ints {F : Nat → Prop} {W w : World} {a r : Nat} {s : List Tm} {now : Int} {v1 v2 : Value} (h : DueBoth F W w a r s now v1 v2) :
    Calls Try.prog 13 #[v1, v2] w fun e w' => e = .returned (.bool true) ∧ Two F W w' a r (restL s now) := by
  obtain ⟨h1, h2, h3, h4⟩ := h
  refine (ints_any h2 h3 (by simpa using h4)).mono ?_
  rintro e w' ⟨rfl, n, rfl⟩
  exact ⟨by simp, h1.drewN n⟩

/-- Both begin with none. -/
theorem two_start {w0 w : World} {a : Nat} (h : On w0 w a []) : Two (fun k => k < w0.heap.size) w0 (w.alloc (.cells #[.slice none 0 0] 29)) a w.heap.size [] := by
  obtain ⟨S, h1, h2, h3⟩ := h
  have hb : Below w.heap.size w (w.alloc (.cells #[.slice none 0 0] 29)) := (Below.refl _ _).alloc (Nat.le_refl _) _
  refine ⟨S, fun k => k = w.heap.size, .slice none 0 0, h1.under hb, ⟨(fun k hk => by subst hk; simp), rfl, ?_, ⟨none, 0, rfl, Nat.le_refl _, Nat.zero_le _, fun h => by simp at h⟩, by simp⟩, List.Pairwise.nil, fun k hs ht => ?_, fun k hs => by have := h2 k hs; omega, fun k ht => by subst ht; have := h3.size; omega, .of_below (h3.trans (hb.mono h3.size))⟩
  · show (w.heap.push _)[w.heap.size]? = _
    simp
  · have := h1.below k hs; omega

/-- A new block is held beside. -/
theorem Two.hold {F : Nat → Prop} {W w : World} {a r : Nat} {s : List Tm} (h : Two F W w a r s) (o : Obj) : Two (fun k => F k ∨ k = w.heap.size) (w.alloc o) (w.alloc o) a r s ∧ Frm F W (w.alloc o) := by
  have hb : Below w.heap.size w (w.alloc o) := (Below.refl _ _).alloc (Nat.le_refl _) _
  have hf := (Half.under h hb).frm
  obtain ⟨S, T, v, h1, h2, h3, h4, h5, h6, h7⟩ := h
  refine ⟨⟨S, T, v, h1.under hb, h2.under hb, h3, h4, fun k hs hf => ?_, fun k ht hf => ?_, ⟨fun k hk => ?_, rfl, rfl, rfl, Nat.le_refl _, fun _ _ => rfl⟩⟩, hf⟩
  · rcases hf with hf | hf
    · exact h5 k hs hf
    · have := h1.below k hs; omega
  · rcases hf with hf | hf
    · exact h6 k ht hf
    · have := h2.below k ht; omega
  · rcases hk with hk | hk
    · have := h7.lt k hk; have := h7.size; simp; omega
    · subst hk; simp
theorem Two.release {F : Nat → Prop} {W w1 w : World} {O a r : Nat} {s : List Tm} (h : Two (fun k => F k ∨ k = O) w1 w a r s) (hf : Frm F W w1) : Two F W w a r s := by
  obtain ⟨S, T, v, h1, h2, h3, h4, h5, h6, h7⟩ := h
  exact ⟨S, T, v, h1, h2, h3, h4, fun k hs hf => h5 k hs (.inl hf), fun k ht hf => h6 k ht (.inl hf), ⟨hf.lt, h7.os.trans hf.os, h7.tape.trans hf.tape, h7.output.trans hf.output, Nat.le_trans hf.size h7.size, fun k hk => (h7.block k (.inl hk)).trans (hf.block k hk)⟩⟩
theorem Frm.cell {F : Nat → Prop} {W w : World} (h : Frm F W w) {b off : Nat} (hb : F b) {u : Value} (hc : W.cell? ⟨b, off, none⟩ = some u) : w.cell? ⟨b, off, none⟩ = some u := (World.cell?_of_block (a := ⟨b, off, none⟩) (h.block b hb)).trans hc

end Go.Proofs.Ytohbnkghenlnoaa
