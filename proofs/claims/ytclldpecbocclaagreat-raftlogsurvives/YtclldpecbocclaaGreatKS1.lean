/- RaftlogSurvives: terms and votes; a crash. -/
import Derived.Test.YtclldpecbocclaaGreatKH20
import Derived.Test.YtclldpecbocclaaGreatK26
import Derived.Test.YtclldpecbocclaaGreatK3
import Derived.Test.YtclldpecbocclaaGreatKF1
import Derived.Test.YtclldpecbocclaaGreatK27
namespace Go.Proofs.YtclldpecbocclaaGreat
open Go.RowKit Go.Maps
set_option maxRecDepth 100000
set_option linter.unusedSimpArgs false
set_option linter.unusedVariables false

/-- A term that does not fall, a vote that is given once. -/
def TV (s s' : LSt) : Prop := s.term ≤ s'.term ∧ (s'.term = s.term → s.vote ≠ 0 → s'.vote = s.vote)
theorem TV.same (s s' : LSt) (h1 : s'.term = s.term) (h2 : s'.vote = s.vote) : TV s s' := ⟨by omega, fun _ _ => h2⟩
theorem put_TV (free : Nat) (s : LSt) (after : Int) (l : List Et) : TV s (putE free s after l).2 := by
  unfold putE
  split
  · exact .same _ _ rfl rfl
  split
  · exact .same _ _ rfl rfl
  split
  · exact .same _ _ rfl rfl
  split
  · exact .same _ _ rfl rfl
  split
  · exact .same _ _ rfl rfl
  · exact .same _ _ rfl rfl
theorem snap_TV (size : Nat) (s : LSt) (i t : Int) (d : List UInt8) : TV s (snapE size s i t d).2 := by
  unfold snapE
  split
  · exact .same _ _ rfl rfl
  split
  · exact .same _ _ rfl rfl
  split
  · exact .same _ _ rfl rfl
  split
  · exact .same _ _ rfl rfl
  split
  · exact .same _ _ rfl rfl
  · exact .same _ _ rfl rfl
theorem turn_TV (size : Nat) (s : LSt) (t v : Int) : TV s (turnE size s t v).2 := by
  unfold turnE
  split
  · exact .same _ _ rfl rfl
  split
  · exact .same _ _ rfl rfl
  rename_i h1
  split
  · exact .same _ _ rfl rfl
  split
  · exact .same _ _ rfl rfl
  rename_i h3
  split
  · exact .same _ _ rfl rfl
  · exact ⟨by show s.term ≤ t; omega, fun (e : t = s.term) h0 => absurd ⟨e, h0⟩ h3⟩
theorem crash_same (ks : List Int) : ∀ (i j : Nat) (l : List AF), (∀ x ∈ l, x.bs.length = x.safe) → crashL ks i j l = l
  | _, 0, l, _ => by simp [crashL]
  | _, _ + 1, [], _ => by simp [crashL]
  | i, j + 1, x :: r, h => by
    rw [crashL, if_pos (h x (by simp)), crash_same ks i j r (fun y hy => h y (by simp [hy]))]
theorem fs_safe (s : LSt) : ∀ x ∈ s.fs, x.bs.length = x.safe := by
  intro x hx
  unfold LSt.fs fsOf at hx
  cases hl : lB s <;> cases hs : sB s <;> cases ht : tB s <;> rw [hl, hs, ht] at hx <;> simp at hx
  all_goals
    first
    | (rcases hx with rfl | rfl | rfl <;> rfl)
    | (rcases hx with rfl | rfl <;> rfl)
    | (subst hx; rfl)
theorem LF.crash {w0 w : World} {X q a size s} (h : LF w0 w X q a size s) {oa : Option Addr} {ks : List Int} (cap : Nat) (hk : Nums w0 oa ks) : Calls Tryz.prog 16 #[.pointer (some ⟨a, 0, none⟩), .slice oa ks.length cap] w fun e w' => e = .returned (.tuple #[]) ∧ LFA w0 w w' X q a size s := by
  obtain ⟨B, ⟨U, S, v, h1, h2, h3, h4⟩, h5, h6, h7, h8⟩ := h
  have hd : dIntsAt w oa ks := by
    rcases hk.at_ with h | ⟨b, off, e, hc⟩
    · exact .inl h
    · refine .inr ⟨b, off, e, fun j hj => ?_⟩
      have hne : ks ≠ [] := fun e => by rw [e] at hj; simp at hj
      have := hc j hj
      exact ⟨(World.cell?_of_block (h7.block b (hk.lt hne b off e))).trans this.1, this.2.1, this.2.2⟩
  refine (crashA h2 oa ks cap hd hk.len (fun hne b off e hS => ?_)).mono ?_
  · have := hk.lt hne b off e
    have := (h6 b ((h4 b).2 (.inr hS))).1
    omega
  · rintro e w' ⟨e1, hA⟩
    rw [crash_same ks _ _ _ (fs_safe s)] at hA
    refine ⟨e1, LF.after h5 h6 h7 h8 ?_⟩
    obtain ⟨S', g1, g2, g3, g4⟩ := hA
    refine ⟨fun k => U k ∨ S' k, ⟨U, S', v, h1.beside g4 (fun k hU hS => h3 k hS hU), g1, fun k hS hU => ?_, fun k => Iff.rfl⟩, fun k hk2 => ?_, fun k hk2 => ?_, ?_⟩
    · rcases g2 k hS with h | h
      · exact h3 k h hU
      · have := h1.below k hU; omega
    · rcases hk2 with h | h
      · exact .inl ((h4 k).2 (.inl h))
      · rcases g2 k h with h | h
        · exact .inl ((h4 k).2 (.inr h))
        · exact .inr h
    · rcases (h4 k).1 hk2 with h | h
      · exact .inl h
      · exact .inr (g3 k h)
    · exact ⟨g4.os, g4.tape, g4.output, g4.size, fun k hk2 hn => g4.block k hk2 (fun hS => hn ((h4 k).2 (.inr hS)))⟩
/-- What the call of a round leaves. -/
structure SR (w W : World) (b q a : Nat) (s s' : LSt) (O : Obj) : Prop where
  log : LF w W (fun z => z = b) q a 1000000 s'
  tv : TV s s'
  box : W.heap[b]? = some O
theorem SR.of {w W w' : World} {b q a s s' O} (hbox : W.heap[b]? = some O) (tv : TV s s') (h : LFA w W w' (fun z => z = b) q a 1000000 s') : SR w w' b q a s s' O := ⟨h.1, tv, (h.2.1 b rfl).trans hbox⟩
theorem SR.stay {w W : World} {b q a s O} (h : LF w W (fun z => z = b) q a 1000000 s) (hbox : W.heap[b]? = some O) : SR w W b q a s s O := ⟨h, .same _ _ rfl rfl, hbox⟩
theorem SR.putRow {w W W' : World} {b q a s O} (h : LF w W (fun z => z = b) q a 1000000 s) (hbox : W.heap[b]? = some O) (hb : Below W.heap.size W W') {v : Value} {l : List Et} (he : EL W' v l) (ho : ∀ k, v.ownBlock = some k → W.heap.size ≤ k) (hl : l.length ≤ 1000) (after : Int) :
    Calls Tryz.prog 11 #[.pointer (some ⟨q, 0, none⟩), .int .i64 after, v] W' fun e w' => (∃ c : Int, e = .returned (.int .i64 c)) ∧ ∃ s', SR w w' b q a s s' O := by
  have h1 := h.with hb (fun k => k = b ∨ v.ownBlock = some k) (fun k hk => by
    rcases hk with hk | hk
    · exact .inl hk
    · exact .inr ⟨ho k hk, he.lt k hk⟩)
  obtain ⟨oa, cap, rfl, hcap, hcm, _, _⟩ := he.shape
  refine (h1.put he.at hl hcap hcm (fun _ ad had => .inl (by subst had; exact .inr rfl)) after).mono ?_
  rintro e w' ⟨e1, g1, g2, g3⟩
  exact ⟨⟨_, e1⟩, _, g1.with (Below.refl _ _) (fun z => z = b) (fun k hk => .inl (.inl hk)), put_TV _ _ _ _, (g2 b (.inl rfl)).trans ((hb.block b (lt_blk hbox)).trans hbox)⟩
theorem SR.turn {w W : World} {b q a s O} (h : LF w W (fun z => z = b) q a 1000000 s) (hbox : W.heap[b]? = some O) (t v : Int) :
    Calls Tryz.prog 13 #[.pointer (some ⟨q, 0, none⟩), .int .i64 t, .int .i64 v] W fun e w' => (∃ c : Int, e = .returned (.int .i64 c)) ∧ ∃ s', SR w w' b q a s s' O :=
  (h.turn t v).mono fun e w' ⟨e1, e2⟩ => ⟨⟨_, e1⟩, _, SR.of hbox (turn_TV _ _ _ _) e2⟩
theorem SR.snap {w W W' : World} {b q a s O} (h : LF w W (fun z => z = b) q a 1000000 s) (hbox : W.heap[b]? = some O) (hb : Below W.heap.size W W') (i t : Int) :
    Calls Tryz.prog 15 #[.pointer (some ⟨q, 0, none⟩), .int .i64 i, .int .i64 t, .string ⟨#[115, 116, 97, 116, 101]⟩] W' fun e w' => (∃ c : Int, e = .returned (.int .i64 c)) ∧ ∃ s', SR w w' b q a s s' O :=
  ((h.under hb).snap i t [115, 116, 97, 116, 101] (by simp)).mono fun e w' ⟨e1, e2⟩ => ⟨⟨_, e1⟩, _, SR.of ((hb.block b (lt_blk hbox)).trans hbox) (snap_TV _ _ _ _ _) e2⟩
theorem set3_cell {W : World} {b g o : Nat} (hne : g ≠ b) (u0 u1 u2 : Value) : (((W.setCell ⟨b, 0, none⟩ u0).setCell ⟨b, 1, none⟩ u1).setCell ⟨b, 2, none⟩ u2).cell? ⟨g, o, none⟩ = W.cell? ⟨g, o, none⟩ :=
  World.cell?_of_block (a := ⟨g, o, none⟩) (by rw [Below.heap_setCell _ ⟨b, 2, none⟩ _ g hne, Below.heap_setCell _ ⟨b, 1, none⟩ _ g hne, Below.heap_setCell _ ⟨b, 0, none⟩ _ g hne])
theorem set3_box {W : World} {b : Nat} {v0 v1 v2 : Value} (h : W.heap[b]? = some (.cells #[v0, v1, v2] 37)) (u0 u1 u2 : Value) : (((W.setCell ⟨b, 0, none⟩ u0).setCell ⟨b, 1, none⟩ u1).setCell ⟨b, 2, none⟩ u2).heap[b]? = some (.cells #[u0, u1, u2] 37) := by
  rw [set_box (set_box (set_box h))]
  rfl
theorem set3_below8 {w8 W : World} {b : Nat} (hb : Below w8.heap.size w8 W) (h : w8.heap.size ≤ b) (u0 u1 u2 : Value) : Below w8.heap.size w8 (((W.setCell ⟨b, 0, none⟩ u0).setCell ⟨b, 1, none⟩ u1).setCell ⟨b, 2, none⟩ u2) :=
  ((hb.setCell (p := ⟨b, 0, none⟩) h _).setCell (p := ⟨b, 1, none⟩) h _).setCell (p := ⟨b, 2, none⟩) h _
/-- The old log, to be read. -/
theorem old_last {w : World} {q a s} (h : ∃ U v, LogM w U q a v s) (hb : LB s) : Calls Tryz.prog 9 #[.pointer (some ⟨q, 0, none⟩)] w fun e w' => e = .returned (.tuple #[.int .i64 (lastE s).i, .int .i64 (lastE s).t]) ∧ Below w.heap.size w w' := by
  obtain ⟨U, v, hm⟩ := h
  exact last_any hm hb
theorem old_under {w w' : World} {q a s} (h : ∃ U v, LogM w U q a v s) (hb : Below w.heap.size w w') : ∃ U v, LogM w' U q a v s := by
  obtain ⟨U, v, hm⟩ := h
  exact ⟨U, v, hm.under hb⟩
theorem old_snapshot {w : World} {q a s} (h : ∃ U v, LogM w U q a v s) : Calls Tryz.prog 17 #[.pointer (some ⟨q, 0, none⟩)] w fun e w' => e = .returned (.tuple #[.int .i64 s.snap.i, .int .i64 s.snap.t, .string (strOf s.snap.d)]) ∧ Below w.heap.size w w' := by
  obtain ⟨U, v, hm⟩ := h
  exact snapshot_any hm
theorem old_first {w : World} {q a s} (h : ∃ U v, LogM w U q a v s) (hb : LB s) : Calls Tryz.prog 20 #[.pointer (some ⟨q, 0, none⟩)] w fun e w' => e = .returned (.int .i64 (s.snap.i + 1)) ∧ w = w' := by
  obtain ⟨U, v, hm⟩ := h
  exact first_any hm hb
theorem old_term {w : World} {q a s} (h : ∃ U v, LogM w U q a v s) : Calls Tryz.prog 7 #[.pointer (some ⟨q, 0, none⟩)] w fun e w' => e = .returned (.int .i64 s.term) ∧ w = w' := by
  obtain ⟨U, v, hm⟩ := h
  exact term_any hm
theorem old_vote {w : World} {q a s} (h : ∃ U v, LogM w U q a v s) : Calls Tryz.prog 8 #[.pointer (some ⟨q, 0, none⟩)] w fun e w' => e = .returned (.int .i64 s.vote) ∧ w = w' := by
  obtain ⟨U, v, hm⟩ := h
  exact vote_any hm
theorem old_all {w : World} {q a s} (h : ∃ U v, LogM w U q a v s) (hb : LB s) (hl : s.list.length ≤ 1000000) : Calls Tryz.prog 19 #[.pointer (some ⟨q, 0, none⟩), .int .i64 (s.snap.i + 1), .int .i64 1000000] w fun e w' => ∃ v', e = .returned v' ∧ EL w' v' s.list ∧ Below w.heap.size w w' := by
  obtain ⟨U, v, hm⟩ := h
  have := from_any hm hb (s.snap.i + 1) 1000000
  rw [from_all hl] at this
  exact this.mono fun e w' ⟨v', e1, e2, e3, e4⟩ => ⟨v', e1, e2, e4⟩
end Go.Proofs.YtclldpecbocclaaGreat

