/- Any record but those that turn a partition is applied; an image of a call's own. -/
import Derived.Test.YtcffomhcmilcpaaGreatA20
import Derived.Test.YtcffomhcmilcpaaGreatA22p
import Derived.Test.YtcffomhcmilcpaaGreatA19
import Derived.Test.YtcffomhcmilcpaaGreatA17
import Derived.Test.YtcffomhcmilcpaaGreatA15
import Derived.Test.YtcffomhcmilcpaaGreatA14
import Derived.Test.YtcffomhcmilcpaaGreatA13
namespace Go.Proofs.YtcffomhcmilcpaaGreat
open Go.RowKit Go.Maps
set_option maxRecDepth 100000
set_option linter.unusedSimpArgs false
set_option linter.unusedVariables false

set_option maxHeartbeats 800000 in
theorem krefuse_any {w : World} {Z : Nat → Prop} {q : Nat} {I : Im} (hi : Img w Z q I) {v : Value} {r : Rc} (hr : RecM w v r) : Calls Tryz.prog 74 #[.pointer (some ⟨q, 0, none⟩), v] w fun e w' => e = .returned (.tuple #[.int .i64 0, .int .i64 1]) ∧ IAfter Z w w' q I := by
  obtain ⟨⟨lv, rfl, hil⟩, ok, hname⟩ := hr
  obtain ⟨⟨la, lc, rfl, _⟩, _⟩ := hil
  have HA := hid (fun w1 hb => hi.after (w1 := w1) hb)
  clear hi
  go_enter Tryz.func74, Tryz.ntmps74
  go_wp2_with fail
  go_ret2
  refine ⟨rfl, HA.out _ ?_⟩
  repeat (first | exact Below.refl _ _ | refine Below.alloc ?_ (by simp) _)
def ImSum (I : Im) : Prop := sumT I.tops = (I.parts.length : Int)
theorem sum_topic {I : Im} (h : ImSum I) (r : Rc) : ImSum (topicI I r).1 := by
  unfold topicI
  split
  · exact h
  · rename_i h1
    split
    · exact h
    · split
      · exact h
      · unfold ImSum at h ⊢
        simp only [sumT_append, h, List.length_append, moreP_len, sumT]
        have h2 : upB r.a 16 = true := by
          simp only [Bool.or_eq_true, Bool.not_eq_true', not_or, Bool.not_eq_false] at h1
          exact h1.1.1.2
        have := upB_iff.1 h2
        push_cast
        omega
theorem sum_putOff {I : Im} (h : ImSum I) (n : Int) : ImSum (putOffI I n) := by
  unfold ImSum at h ⊢
  simp only [putOffI, List.length_map]
  exact h
theorem sum_do {I : Im} (h : ImSum I) (r : Rc) : ImSum (doI I r).1 := by
  unfold doI
  split
  · unfold registerI
    split
    · exact h
    · split
      · exact h
      · show sumT (if _ then putOffI I r.a else I).tops = ((if _ then putOffI I r.a else I).parts.length : Int)
        split
        · exact sum_putOff h _
        · exact h
  · split
    · unfold fenceI
      split
      · exact h
      · exact sum_putOff h _
    · split
      · unfold unfenceI
        split
        · exact h
        · unfold ImSum at h ⊢
          simp only [List.length_map]
          exact h
      · split
        · exact sum_topic h r
        · split
          · unfold turnI
            split
            · exact h
            · unfold ImSum takeI at *
              simp only
              split <;> simpa using h
          · split
            · unfold pidI
              split
              · exact h
              · split
                · exact h
                · split
                  · split <;> exact h
                  · split <;> exact h
            · exact h
theorem apply_any {w : World} {Z : Nat → Prop} {q : Nat} {I : Im} (hi : Img w Z q I) {v : Value} {r : Rc} (hr : RecM w v r) (hnz : InR (fun k => ¬ Z k) v r) (ha : I.applied < 1000000000000) (hs : ImSum I) (hk : ¬ (r.kind = 5 ∨ r.kind = 6 ∨ r.kind = 7 ∨ r.kind = 10 ∨ r.kind = 9)) :
    Calls Tryz.prog 12 #[.pointer (some ⟨q, 0, none⟩), v] w fun e w' => e = .returned (.tuple #[.int .i64 (applyI I r).2.1, .int .i64 (applyI I r).2.2]) ∧ IAfter Z w w' q (applyI I r).1 := by
  refine apply_of hi hr hnz ha fun W hW hR => ?_
  unfold kindF doI
  by_cases h1 : r.kind = 1
  · rw [if_pos h1, if_pos h1]; exact kregister_any hW hR
  rw [if_neg h1, if_neg h1]
  by_cases h2 : r.kind = 2
  · rw [if_pos h2, if_pos h2]; exact kfence_any hW hR
  rw [if_neg h2, if_neg h2]
  by_cases h3 : r.kind = 3
  · rw [if_pos h3, if_pos h3]; exact kunfence_any hW hR
  rw [if_neg h3, if_neg h3]
  by_cases h4 : r.kind = 4
  · rw [if_pos h4, if_pos h4]; exact ktopic_any hW hR hs
  rw [if_neg h4, if_neg h4, if_neg hk, if_neg hk]
  by_cases h8 : r.kind = 8
  · rw [if_pos h8, if_pos h8]; exact kpid_any hW hR
  rw [if_neg h8, if_neg h8]
  exact krefuse_any hW hR
/-- An image of a call's own, apart from the blocks of X. -/
def IS (w W : World) (q : Nat) (I : Im) (X : Nat → Prop) : Prop := (∃ Z, Img W Z q I ∧ ∀ k, Z k → w.heap.size ≤ k ∧ ¬ X k) ∧ Below w.heap.size w W ∧ ImSum I
theorem IS.under {w W W1 : World} {q : Nat} {I : Im} {X : Nat → Prop} (h : IS w W q I X) (hb : Below W.heap.size W W1) : IS w W1 q I X := by
  obtain ⟨⟨Z, h1, h2⟩, h3, h4⟩ := h
  exact ⟨⟨Z, h1.under hb, h2⟩, h3.trans (hb.mono h3.size), h4⟩
/-- What is turned is not the image's. -/
theorem IS.beside {w W W1 : World} {q : Nat} {I : Im} {X : Nat → Prop} (h : IS w W q I X) (hb : Keeps X W W1) (hw : Below w.heap.size w W1) : IS w W1 q I X := by
  obtain ⟨⟨Z, ⟨L, b, vt, vp, ve, ps, h1, hz1, hz2, hz3⟩, h2⟩, h3, h4⟩ := h
  exact ⟨⟨Z, ⟨L, b, vt, vp, ve, ps, h1.kept (fun k hk => hb.block k (h1.lt hk) (h2 k (hz1 k hk)).2) (fun k hk => hb.block k (h1.lists k hk).1 (h2 k (hz2 k hk)).2) hb.size, hz1, hz2, fun k hk => Nat.lt_of_lt_of_le (hz3 k hk) hb.size⟩, h2⟩, hw, h4⟩
theorem IS.more {w W : World} {q : Nat} {I : Im} {X Y : Nat → Prop} (h : IS w W q I X) (hY : ∀ k, Y k → X k ∨ W.heap.size ≤ k) : IS w W q I Y := by
  obtain ⟨⟨Z, ⟨L, b, vt, vp, ve, ps, h1, hz1, hz2, hz3⟩, h2⟩, h3, h4⟩ := h
  exact ⟨⟨Z, ⟨L, b, vt, vp, ve, ps, h1, hz1, hz2, hz3⟩, fun k hk => ⟨(h2 k hk).1, fun hy => by
    rcases hY k hy with e | e
    · exact (h2 k hk).2 e
    · have := hz3 k hk; omega⟩⟩, h3, h4⟩
theorem IS.new (w : World) {W W1 : World} {X : Nat → Prop} (hb : Below w.heap.size w W) (hX : ∀ k, X k → k < W.heap.size) (h : Img W1 (fun k => k = W.heap.size ∨ k = W.heap.size + 1) (W.heap.size + 1) Im.new) (hb2 : Below W.heap.size W W1) : IS w W1 (W.heap.size + 1) Im.new X :=
  ⟨⟨_, h, fun k hk => ⟨by have := hb.size; omega, fun hx => by have := hX k hx; omega⟩⟩, hb.trans (hb2.mono hb.size), rfl⟩
theorem IS.below {w W : World} {q : Nat} {I : Im} {X : Nat → Prop} (h : IS w W q I X) : Below w.heap.size w W := h.2.1
@[reducible] def recV (a b c d : Int) : Value := .agg #[.int .i64 a, .int .i64 b, .int .i64 c, .int .i64 d, .int .i64 0, .string ⟨#[116]⟩, .string ⟨#[]⟩, .slice none 0 0]
theorem rec_ok (W : World) (a b c d : Int) (ha : I64 a) (hb : I64 b) (hc : I64 c) (hd : I64 d) : RecM W (recV a b c d) (rcR a b c d) :=
  ⟨⟨_, rfl, IL.nil _⟩, ⟨ha, hb, hc, hd, by show I64 0; unfold I64; omega⟩, by show (1 : Nat) ≤ maxLen; unfold maxLen; omega⟩
theorem IS.after {w W W1 : World} {Z X : Nat → Prop} {q : Nat} {J : Im} (h3 : Below w.heap.size w W) (h2 : ∀ k, Z k → w.heap.size ≤ k ∧ ¬ X k) (hX : ∀ k, X k → k < W.heap.size) (hj : ImSum J) (h : IAfter Z W W1 q J) : IS w W1 q J X ∧ ∀ k, X k → W1.heap[k]? = W.heap[k]? := by
  obtain ⟨Z', i1, i2, i3⟩ := h
  exact ⟨⟨⟨Z', i1, fun k hk => (i2 k hk).elim (h2 k) (fun e => ⟨Nat.le_trans h3.size e, fun hx => by have := hX k hx; omega⟩)⟩, h3.trans (i3.below h3.size (fun k hk => (h2 k hk).1)), hj⟩, fun k hk => i3.block k (hX k hk) (fun hz => (h2 k hz).2 hk)⟩
/-- What a record leaves. -/
def ISOut (w W w' : World) (q : Nat) (J : Im) (X : Nat → Prop) : Prop := IS w w' q J X ∧ (∀ k, X k → w'.heap[k]? = W.heap[k]?) ∧ W.heap.size ≤ w'.heap.size
theorem IS.do {w W : World} {q : Nat} {I : Im} {X : Nat → Prop} (h : IS w W q I X) (hX : ∀ k, X k → k < W.heap.size) (ha : I.applied < 1000000000000) {v : Value} {r : Rc} (hr : RecM W v r) (hl : r.list = []) (hk : ¬ (r.kind = 5 ∨ r.kind = 6 ∨ r.kind = 7 ∨ r.kind = 10 ∨ r.kind = 9)) {n m : Int} {J : Im} (hres : applyI I r = (J, n, m)) :
    Calls Tryz.prog 12 #[.pointer (some ⟨q, 0, none⟩), v] W fun e w' => e = .returned (.tuple #[.int .i64 n, .int .i64 m]) ∧ ISOut w W w' q J X := by
  obtain ⟨⟨Z, h1, h2⟩, h3, h4⟩ := h
  refine (apply_any h1 hr (fun _ _ _ _ _ _ _ lv _ => by rw [hl]; exact In.nil _ _) ha h4 hk).mono ?_
  have hs := sum_do (I := nextI I) h4 r
  rintro e w' ⟨rfl, hA⟩
  have e1 : doI (nextI I) r = (J, n, m) := hres
  rw [e1] at hs
  rw [hres] at hA ⊢
  obtain ⟨j1, j2⟩ := IS.after h3 h2 hX hs hA
  obtain ⟨_, _, _, i3⟩ := hA
  exact ⟨rfl, j1, j2, i3.size⟩
theorem IS.rec {w W : World} {q : Nat} {I : Im} {X : Nat → Prop} (h : IS w W q I X) (hX : ∀ k, X k → k < W.heap.size) (ha : I.applied < 1000000000000) (a b c d : Int) (hk : ¬ (a = 5 ∨ a = 6 ∨ a = 7 ∨ a = 10 ∨ a = 9)) (ka : I64 a) (kb : I64 b) (kc : I64 c) (kd : I64 d) {n m : Int} {J : Im} (hres : applyI I (rcR a b c d) = (J, n, m)) :
    Calls Tryz.prog 12 #[.pointer (some ⟨q, 0, none⟩), recV a b c d] W fun e w' => e = .returned (.tuple #[.int .i64 n, .int .i64 m]) ∧ ISOut w W w' q J X :=
  h.do hX ha (rec_ok W a b c d ka kb kc kd) rfl hk hres
theorem IS.part {w W : World} {q : Nat} {I : Im} {X : Nat → Prop} (h : IS w W q I X) (i : Nat) (p : Pt) (hp : I.parts[i]? = some p) (n : Int) (hn : n = (i : Int) + 1) : Calls Tryz.prog 30 #[.pointer (some ⟨q, 0, none⟩), .int .i64 n] W fun e w' => PartOut W w' p e := by
  obtain ⟨⟨Z, h1, h2⟩, h3, h4⟩ := h
  obtain ⟨hi, e⟩ := List.getElem?_eq_some_iff.1 hp
  rw [hn, ← e]
  exact part_yes h1 i hi
theorem IS.applied {w W : World} {q : Nat} {I : Im} {X : Nat → Prop} (h : IS w W q I X) : Calls Tryz.prog 27 #[.pointer (some ⟨q, 0, none⟩)] W fun e w' => e = .returned (.int .i64 I.applied) ∧ W = w' := by
  obtain ⟨⟨Z, h1, h2⟩, h3, h4⟩ := h
  exact applied_any h1
end Go.Proofs.YtcffomhcmilcpaaGreat
