/- Two images side by side. -/
import Derived.Test.YtcffomhcmilcpaaGreatKR2
import Derived.Test.YtcffomhcmilcpaaGreatL4
import Derived.Test.YtcffomhcmilcpaaGreatK30
namespace Go.Proofs.YtcffomhcmilcpaaGreat
open Go.RowKit Go.Maps
set_option linter.unusedSimpArgs false
set_option linter.unusedVariables false

theorem Img.kept {w w1 : World} {Z : Nat → Prop} {q : Nat} {I : Im} (h : Img w Z q I) (hk : ∀ k, Z k → w1.heap[k]? = w.heap[k]?) (hs : w.heap.size ≤ w1.heap.size) : Img w1 Z q I := by
  obtain ⟨L, b, vt, vp, ve, ps, h1, h2, h3, h4⟩ := h
  exact ⟨L, b, vt, vp, ve, ps, h1.kept (fun k hk' => hk k (h2 k hk')) (fun k hk' => hk k (h3 k hk')) hs, h2, h3, fun k hk' => Nat.lt_of_lt_of_le (h4 k hk') hs⟩
theorem Img.lt {w : World} {Z : Nat → Prop} {q : Nat} {I : Im} (h : Img w Z q I) : ∀ k, Z k → k < w.heap.size := by
  obtain ⟨L, b, vt, vp, ve, ps, h1, h2, h3, h4⟩ := h
  exact h4
/-- Two images of the call's own, apart from one another and from the blocks of X. -/
def Two (w U : World) (q1 q2 : Nat) (I J : Im) (X : Nat → Prop) : Prop :=
  ∃ Z1 Z2 : Nat → Prop, Img U Z1 q1 I ∧ Img U Z2 q2 J ∧ (∀ k, Z1 k → w.heap.size ≤ k ∧ ¬ X k ∧ ¬ Z2 k) ∧ (∀ k, Z2 k → w.heap.size ≤ k ∧ ¬ X k) ∧ Below w.heap.size w U ∧ ImSum I ∧ ImSum J
theorem Two.swap {w U : World} {q1 q2 : Nat} {I J : Im} {X : Nat → Prop} (h : Two w U q1 q2 I J X) : Two w U q2 q1 J I X := by
  obtain ⟨Z1, Z2, h1, h2, h3, h4, h5, h6, h7⟩ := h
  exact ⟨Z2, Z1, h2, h1, fun k hk => ⟨(h4 k hk).1, (h4 k hk).2, fun h => (h3 k h).2.2 hk⟩, fun k hk => ⟨(h3 k hk).1, (h3 k hk).2.1⟩, h5, h7, h6⟩
theorem Two.under {w U U1 : World} {q1 q2 : Nat} {I J : Im} {X : Nat → Prop} (h : Two w U q1 q2 I J X) (hb : Below U.heap.size U U1) : Two w U1 q1 q2 I J X := by
  obtain ⟨Z1, Z2, h1, h2, h3, h4, h5, h6⟩ := h
  exact ⟨Z1, Z2, h1.under hb, h2.under hb, h3, h4, h5.trans (hb.mono h5.size), h6⟩
theorem Two.more {w U : World} {q1 q2 : Nat} {I J : Im} {X Y : Nat → Prop} (h : Two w U q1 q2 I J X) (hY : ∀ k, Y k → X k ∨ U.heap.size ≤ k) : Two w U q1 q2 I J Y := by
  obtain ⟨Z1, Z2, h1, h2, h3, h4, h5, h6⟩ := h
  refine ⟨Z1, Z2, h1, h2, fun k hk => ⟨(h3 k hk).1, fun hy => ?_, (h3 k hk).2.2⟩, fun k hk => ⟨(h4 k hk).1, fun hy => ?_⟩, h5, h6⟩
  · rcases hY k hy with e | e
    · exact (h3 k hk).2.1 e
    · have := h1.lt k hk; omega
  · rcases hY k hy with e | e
    · exact (h4 k hk).2 e
    · have := h2.lt k hk; omega
theorem Two.below {w U : World} {q1 q2 : Nat} {I J : Im} {X : Nat → Prop} (h : Two w U q1 q2 I J X) : Below w.heap.size w U := by
  obtain ⟨Z1, Z2, h1, h2, h3, h4, h5, h6⟩ := h
  exact h5
theorem Two.ok {w U : World} {q1 q2 : Nat} {I J : Im} {X : Nat → Prop} (h : Two w U q1 q2 I J X) : ImOk I := by
  obtain ⟨Z1, Z2, h1, h2, h3, h4, h5, h6⟩ := h
  exact h1.ok
theorem Two.new (w : World) {U U1 U2 : World} (hb : Below w.heap.size w U) (h : Img U1 (fun k => k = U.heap.size ∨ k = U.heap.size + 1) (U.heap.size + 1) Im.new) (hb1 : Below U.heap.size U U1) (h2 : Img U2 (fun k => k = U1.heap.size ∨ k = U1.heap.size + 1) (U1.heap.size + 1) Im.new) (hb2 : Below U1.heap.size U1 U2) : Two w U2 (U.heap.size + 1) (U1.heap.size + 1) Im.new Im.new (fun _ => False) := by
  have hl := h.lt
  have e1 := hl U.heap.size (.inl rfl)
  have e2 := hl (U.heap.size + 1) (.inr rfl)
  have s1 := hb.size
  have s2 := hb1.size
  refine ⟨_, _, h.under hb2, h2, fun k hk => ⟨by omega, id, fun h => by omega⟩, fun k hk => ⟨by omega, id⟩, (hb.trans (hb1.mono hb.size)).trans (hb2.mono (by omega)), rfl, rfl⟩
/-- What a record leaves of the first. -/
def TwoOut (w U U1 : World) (q1 q2 : Nat) (I J : Im) (X : Nat → Prop) : Prop := Two w U1 q1 q2 I J X ∧ (∀ k, X k → U1.heap[k]? = U.heap[k]?) ∧ U.heap.size ≤ U1.heap.size
theorem Two.put {w U : World} {q1 q2 : Nat} {I J : Im} {X : Nat → Prop} (h : Two w U q1 q2 I J X) (hX : ∀ k, X k → k < U.heap.size) (ha : I.applied < 1000000000000) {v : Value} {r : Rc} (hr : RecM U v r) (hl : InR (fun k => k < w.heap.size) v r) :
    Calls Tryz.prog 12 #[.pointer (some ⟨q1, 0, none⟩), v] U fun e w' => e = .returned (.tuple #[.int .i64 (applyI I r).2.1, .int .i64 (applyI I r).2.2]) ∧ TwoOut w U w' q1 q2 (applyI I r).1 J X := by
  obtain ⟨Z1, Z2, h1, h2, h3, h4, h5, h6, h7⟩ := h
  refine (apply_all h1 hr (fun k a b c d n t lv e => (hl k a b c d n t lv e).most fun k hk hz => ?_) ha h6).mono ?_
  · have := (h3 k hz).1; omega
  rintro e w' ⟨rfl, Z1', i1, i2, i3⟩
  have hs := sum_do (I := nextI I) h6 r
  refine ⟨rfl, ⟨Z1', Z2, i1, h2.kept (fun k hk => i3.block k (h2.lt k hk) (fun hz => (h3 k hz).2.2 hk)) i3.size, fun k hk => ?_, h4, h5.trans (i3.below h5.size (fun k hk => (h3 k hk).1)), hs, h7⟩, fun k hk => i3.block k (hX k hk) (fun hz => (h3 k hz).2.1 hk), i3.size⟩
  rcases i2 k hk with e | e
  · exact h3 k e
  · exact ⟨Nat.le_trans h5.size e, fun hx => by have := hX k hx; omega, fun hz => by have := h2.lt k hz; omega⟩
theorem Two.parts {w U : World} {q1 q2 : Nat} {I J : Im} {X : Nat → Prop} (h : Two w U q1 q2 I J X) : Calls Tryz.prog 23 #[.pointer (some ⟨q1, 0, none⟩)] U fun e w' => (∃ v, e = .returned v ∧ PartsAt U.heap.size w' v I.parts) ∧ Below U.heap.size U w' ∧ Two w w' q1 q2 I J X := by
  obtain ⟨Z1, Z2, h1, r⟩ := id h
  refine (parts_any h1).mono ?_
  rintro e w' ⟨v, rfl, a, hb⟩
  exact ⟨⟨v, rfl, a⟩, hb, h.under hb⟩
theorem Two.keep {w U : World} {q1 q2 : Nat} {I J : Im} {X : Nat → Prop} (h : Two w U q1 q2 I J X) : Calls Tryz.prog 17 #[.pointer (some ⟨q1, 0, none⟩)] U fun e w' => e = .returned (.string (W.strOf (keepI I))) ∧ Below U.heap.size U w' := by
  obtain ⟨Z1, Z2, h1, r⟩ := id h
  exact keep_any h1
theorem Two.ups {w U : World} {q1 q2 : Nat} {I J : Im} {X : Nat → Prop} (h : Two w U q1 q2 I J X) : Calls Tryz.prog 24 #[.pointer (some ⟨q1, 0, none⟩)] U fun e w' => ∃ v', e = .returned v' ∧ IL w' v' (upL I.brs) ∧ Below U.heap.size U w' := by
  obtain ⟨Z1, Z2, ⟨L, b, vt, vp, ve, ps, h1, _⟩, r⟩ := id h
  refine (up_any h1).mono ?_
  rintro e w' ⟨v', rfl, a, _, c⟩
  exact ⟨v', rfl, a, c⟩
theorem PartsAt.kept {B : Nat} {w w1 : World} {v : Value} {P : List Pt} (h : PartsAt B w v P) (hb : ∀ k, B ≤ k → k < w.heap.size → w1.heap[k]? = w.heap[k]?) (hs : w.heap.size ≤ w1.heap.size) : PartsAt B w1 v P := by
  obtain ⟨ds, h1, h2, h3, h4⟩ := h
  refine ⟨ds, h1, row_kept h2 (fun k hk => ?_), fun x hx => ?_, h4⟩
  · have hlt := row_lt h2 hk
    rw [h4] at hk
    cases hk
    exact hb B (Nat.le_refl _) hlt
  · obtain ⟨g1, g2⟩ := h3 x hx
    exact ⟨g1.kept (g2.and g1.old) (fun k hk => hb k (by omega) hk.2) hs, g2⟩
theorem PartsAt.under {B : Nat} {w w1 : World} {v : Value} {P : List Pt} (h : PartsAt B w v P) (hb : Below w.heap.size w w1) : PartsAt B w1 v P := h.kept (fun k _ hk => hb.block k hk) hb.size
/-- Both are the same, and keep to the rules. -/
def RI (w U : World) (q1 q2 : Nat) (m : Nat) : Prop := ∃ I, Two w U q1 q2 I I (fun _ => False) ∧ LUp I ∧ I.applied = (m : Int)
end Go.Proofs.YtcffomhcmilcpaaGreat

