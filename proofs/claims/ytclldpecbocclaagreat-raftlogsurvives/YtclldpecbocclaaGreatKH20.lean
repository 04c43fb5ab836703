/- Open on a disk with any of a log's files. -/
import Derived.Test.YtclldpecbocclaaGreatKG29
import Derived.Test.YtclldpecbocclaaGreatKG28
import Derived.Test.YtclldpecbocclaaGreatKF2
namespace Go.Proofs.YtclldpecbocclaaGreat
open Go.RowKit Go.Maps
set_option maxRecDepth 100000
set_option linter.unusedSimpArgs false
set_option linter.unusedVariables false

theorem behindS (I : Int) : ∀ l : List Et, (∀ x, l[0]? = some x → I < x.i) → behindN I l = 0
  | [], _ => rfl
  | x :: r, h => by
    unfold behindN
    have := h x (by simp)
    rw [if_neg (by omega)]
/-- A log without entries yet, and its disk. -/
structure LQ (w0 W : World) (S : Nat → Prop) (q a size : Nat) (F : List AF) (t v : Int) (x : Et) : Prop where
  log : LogM W (fun k => k = q) q a (.slice none 0 0) ⟨t, v, x, [], false, false, false⟩
  disk : DiskA W S a size F
  keeps : Keeps (fun k => k = q) w0 W
theorem LQ.under {w0 W W' : World} {S q a size F t v x} (h : LQ w0 W S q a size F t v x) (hb : Below W.heap.size W W') : LQ w0 W' S q a size F t v x :=
  ⟨h.log.under hb, h.disk.under hb, h.keeps.trans (Keeps.of_below (S := fun k => k = q) hb) (fun x hx => .inl hx)⟩
theorem LQ.set {w0 W : World} {S q a size F t v x} (h : LQ w0 W S q a size F t v x) (hq : ¬ S q) (j : Nat) (u : Value) (t' v' : Int) (x' : Et) (he : (#[.int .i64 t, .int .i64 v, .int .i64 x.t, .int .i64 x.i, .string (strOf x.d), .slice none 0 0, .pointer (some ⟨a, 0, none⟩), .string ⟨#[114]⟩] : Array Value).setIfInBounds j u = #[.int .i64 t', .int .i64 v', .int .i64 x'.t, .int .i64 x'.i, .string (strOf x'.d), .slice none 0 0, .pointer (some ⟨a, 0, none⟩), .string ⟨#[114]⟩]) : LQ w0 (W.setCell ⟨q, j, none⟩ u) S q a size F t' v' x' := by
  refine ⟨⟨fun k hk => by rw [set_size]; exact h.log.below k hk, rfl, ?_, EL.nil _, (by intro k hk; cases hk)⟩, h.disk.beside (keeps_set W q j u) (fun k hk e => hq (by rw [← e]; exact hk)), h.keeps.trans (keeps_set W q j u) (fun x hx => .inl hx)⟩
  rw [set_box h.log.box, he]
theorem fs_T (s : LSt) (h : s.ht = true) : alook s.fs nT.data.toList = some ⟨nT.data.toList, termB s.term s.vote, (termB s.term s.vote).length⟩ := by
  unfold LSt.fs; rw [look_T]; unfold tB; rw [h]; rfl
theorem fs_T0 (s : LSt) (h : s.ht = false) : alook s.fs nT.data.toList = none := by
  unfold LSt.fs; rw [look_T]; unfold tB; rw [h]; rfl
theorem fs_S (s : LSt) (h : s.hs = true) : alook s.fs nS.data.toList = some ⟨nS.data.toList, snapB s.snap, (snapB s.snap).length⟩ := by
  unfold LSt.fs; rw [look_S]; unfold sB; rw [h]; rfl
theorem fs_S0 (s : LSt) (h : s.hs = false) : alook s.fs nS.data.toList = none := by
  unfold LSt.fs; rw [look_S]; unfold sB; rw [h]; rfl
theorem fs_L (s : LSt) (h : s.hl = true) : alook s.fs nL.data.toList = some ⟨nL.data.toList, logB s.list, (logB s.list).length⟩ := by
  unfold LSt.fs; rw [look_L]; unfold lB; rw [h]; rfl
theorem fs_L0 (s : LSt) (h : s.hl = false) : alook s.fs nL.data.toList = none := by
  unfold LSt.fs; rw [look_L]; unfold lB; rw [h]; rfl
/-- The entries are stored in the log. -/
theorem LQ.done {w0 W w1 : World} {S q a size} {s : LSt} (h : LQ w0 W S q a size s.fs s.term s.vote s.snap) (hq : ¬ S q) (hq0 : q < w0.heap.size) {v' : Value} (hb : Below W.heap.size W w1) (hE : EL w1 v' s.list) (ho : ∀ k, v'.ownBlock = some k → W.heap.size ≤ k) : OpP S w0 (w1.setCell ⟨q, 5, none⟩ v') q a size s := by
  have h1 := h.under hb
  have hM1 := h1.log
  have hwW := h.keeps.size
  have hlt := h.log.lt
  refine ⟨fun k => k = q ∨ v'.ownBlock = some k, S, v', ⟨fun k hk => ?_, .inl rfl, ?_, ?_, fun k hk => ⟨.inr hk, ?_⟩⟩, ?_, fun k hk => .inl hk, fun k hk => hk, fun k hk hU => ?_, ?_, fun k hU => ?_⟩
  · rw [set_size]
    rcases hk with rfl | hk
    · exact hM1.lt
    · exact hE.lt k hk
  · rw [set_box hM1.box]
    rfl
  · exact hE.kept (fun k hk => Below.heap_setCell w1 ⟨q, 5, none⟩ v' k (fun e => by have e' : k = q := e; have := ho k hk; omega))
  · intro e
    have := ho k hk
    omega
  · exact h1.disk.beside (keeps_set w1 q 5 v') (fun k hk e => hq (by rw [← e]; exact hk))
  · rcases hU with rfl | hU
    · exact hq hk
    · have := ho k hU
      have := h.disk.below k hk
      omega
  · refine ⟨?_, ?_, ?_, ?_, fun k hk hn => ?_⟩
    · exact (h1.keeps.trans (keeps_set w1 q 5 v') (fun x hx => .inl hx)).os
    · exact (h1.keeps.trans (keeps_set w1 q 5 v') (fun x hx => .inl hx)).tape
    · exact (h1.keeps.trans (keeps_set w1 q 5 v') (fun x hx => .inl hx)).output
    · exact (h1.keeps.trans (keeps_set w1 q 5 v') (fun x hx => .inl hx)).size
    · exact (h1.keeps.trans (keeps_set w1 q 5 v') (fun x hx => .inl hx)).block k hk (fun e => hn (.inl e))
  · rcases hU with rfl | hU
    · exact .inl rfl
    · have := ho k hU
      exact .inr (by omega)
theorem synL_any (s : LSt) (n : ByteArray) (hn : n = nT ∨ n = nS ∨ n = nL) : synL s.fs n = s.fs := synL_fs _ _ _ n hn
theorem load_any {w : World} {S q a size} (hsize : size ≤ 8000000) (s : LSt) (hok : LOk s) (hM : LogM w (fun k => k = q) q a (.slice none 0 0) s0) (hD : DiskA w S a size s.fs) (hq : ¬ S q) :
    Calls Tryz.prog 21 #[.pointer (some ⟨q, 0, none⟩)] w fun e w' => e = .returned (.int .i64 0) ∧ OpP S w w' q a size s := by
  have hq0 := hM.lt
  have h0 : LQ w w S q a size s.fs 0 0 e0 := ⟨hM, hD, Keeps.of_below (Below.refl _ _)⟩
  have hfa := hD.facts.1
  have hsz := hD.facts.2.1
  refine load_walk (a := a) (fun W => LQ w W S q a size s.fs s.term s.vote e0) (fun W => LQ w W S q a size s.fs s.term s.vote s.snap) (fun W => OpP S w W q a size s) ?_ ?_ ?_ ?_ ?_ ?_ ?_
  · show Calls _ _ _ _ _
    cases ht : s.ht with
    | false =>
      have := hok.ht ht
      rw [this.1, this.2]
      exact (loadTerm_none hM hD (fs_T0 s ht)).mono fun e w' ⟨e1, e2⟩ => ⟨e1, h0.under e2⟩
    | true =>
      refine (loadTerm_yes hM hD s.term s.vote hok.tv.1 hok.tv.2 (fs_T s ht)).mono ?_
      rintro e w' ⟨e1, w1, rfl, hb⟩
      exact ⟨e1, ((h0.under hb).set hq 0 _ s.term 0 e0 rfl).set hq 1 _ s.term s.vote e0 rfl⟩
  · intro W hW
    have hW' := hW.out
    cases hs : s.hs with
    | false =>
      rw [hok.hs.1 hs]
      exact (loadSnap_none hW'.log hW'.disk (fs_S0 s hs)).mono fun e w' ⟨e1, e2⟩ => ⟨e1, hW'.under e2⟩
    | true =>
      have hr := hok.hs.2 hs
      refine (loadSnap_yes hW'.log hW'.disk s.snap ⟨hr.1, hok.srng.1.2⟩ ⟨hr.2, hok.srng.2.1.2⟩ hok.srng.2.2 (fs_S s hs)).mono ?_
      rintro e w' ⟨e1, w1, rfl, hb⟩
      exact ⟨e1, (((hW'.under hb).set hq 2 _ s.term s.vote ⟨s.snap.t, 0, []⟩ rfl).set hq 3 _ s.term s.vote ⟨s.snap.t, s.snap.i, []⟩ rfl).set hq 4 _ s.term s.vote s.snap rfl⟩
  · intro W hW
    have hW' := hW.out
    cases hl : s.hl with
    | false =>
      have hnil := hok.hl hl
      refine (loadLog_none hW'.log hW'.disk (fs_L0 s hl)).mono ?_
      rintro e w' ⟨e1, hb⟩
      refine ⟨e1, ?_⟩
      have h1 := hW'.under hb
      refine ⟨fun k => k = q, S, .slice none 0 0, ⟨h1.log.below, rfl, h1.log.box, by rw [hnil]; exact EL.nil _, (by intro k hk; cases hk)⟩, h1.disk, fun k hk => .inl hk, fun k hk => hk, fun k hk e => hq (by rw [← e]; exact hk), ?_, fun k hk => .inl hk⟩
      exact ⟨h1.keeps.os, h1.keeps.tape, h1.keeps.output, h1.keeps.size, fun k hk hn => h1.keeps.block k hk (fun e => hn (.inl e))⟩
    | true =>
      have h6 := total_fs (lB s) (sB s) (tB s)
      have h7 : totalA s.fs = totalA (fsOf (lB s) (sB s) (tB s)) := rfl
      have h8 : lB s = some (logB s.list) := by unfold lB; rw [hl]; rfl
      rw [h8] at h6
      simp only [Option.getD_some] at h6
      rw [h8] at h7
      rcases Nat.eq_zero_or_pos s.list.length with hz | hz
      · have hnil := List.eq_nil_of_length_eq_zero hz
        have hF := fs_L s hl
        rw [hnil] at hF
        refine (loadLog_bare hW'.log hW'.disk hF).mono ?_
        rintro e w' ⟨e1, w1, rfl, hb⟩
        exact ⟨e1, hW'.done hq hq0 hb (by rw [hnil]; exact EL.nil _) (by intro k hk; cases hk)⟩
      · have hi0 := hok.srng.2.1
        refine (loadLog_yes hW'.log hW'.disk s.list (fs_L s hl) hi0 hok.rng ?_ hok.chain ?_ hz).mono ?_
        · intro x hx
          have := hok.idx 0 x hx
          show x.i ≤ s.snap.i + 1
          omega
        · omega
        · rintro e w' ⟨e1, v', w1, rfl, hb, hE, ho⟩
          have hd0 : s.list.drop (behindN s.snap.i s.list) = s.list := by
            have : behindN s.snap.i s.list = 0 := behindS _ _ (fun x hx => by have := hok.idx 0 x hx; omega)
            rw [this, List.drop_zero]
          exact ⟨e1, hW'.done hq hq0 hb (by rw [← hd0]; exact hE) ho⟩
  · rintro W ⟨U, S', v, h1, h2, h3, h4, h5, h6, h7⟩
    exact ldisk_any h1
  · rintro W n ⟨U, S', v, h1, h2, h3, h4, h5, h6, h7⟩ hn
    have hs := syncA h2 n (by rcases hn with rfl | rfl | rfl <;> decide)
    rw [synL_any s n hn] at hs
    exact hs.mono fun e w' ⟨e1, e2⟩ => ⟨⟨_, e1⟩, OpP.next h1 h3 h4 h5 h6 h7 e2⟩
  · rintro W ⟨U, S', v, h1, h2, h3, h4, h5, h6, h7⟩
    exact h1.c.c7
  · rintro W ⟨U, S', v, h1, h2, h3, h4, h5, h6, h7⟩
    exact ⟨U, S', v, h1.under (Below.refl _ _).drew, h2.under (Below.refl _ _).drew, h3, h4, h5, h6.trans (Keeps.of_below (S := S) (Below.refl _ _).drew) (fun x hx => .inl (.inr hx)), h7⟩
set_option maxHeartbeats 800000 in
theorem open_any {w : World} {S a size} (hsize : size ≤ 8000000) (s : LSt) (hok : LOk s) (hD : DiskA w S a size s.fs) :
    Calls Tryz.prog 6 #[.pointer (some ⟨a, 0, none⟩), .string ⟨#[114]⟩] w fun e w' => e = .returned (.tuple #[.pointer (some ⟨w.heap.size, 0, none⟩), .int .i64 0]) ∧ ∃ U S' v, LogM w' U w.heap.size a v s ∧ DiskA w' S' a size s.fs ∧ (∀ k, S' k → S k ∨ w.heap.size ≤ k) ∧ (∀ k, S' k → ¬ U k) ∧ Keeps S w w' ∧ (∀ k, U k → w.heap.size ≤ k) := by
  have hb := (Below.refl w.heap.size w).alloc (Nat.le_refl _) (.cells #[.int .i64 0, .int .i64 0, .int .i64 0, .int .i64 0, .string ⟨#[]⟩, .slice none 0 0, .pointer (some ⟨a, 0, none⟩), .string ⟨#[114]⟩] 41)
  have hM : LogM (w.alloc (.cells #[.int .i64 0, .int .i64 0, .int .i64 0, .int .i64 0, .string ⟨#[]⟩, .slice none 0 0, .pointer (some ⟨a, 0, none⟩), .string ⟨#[114]⟩] 41)) (fun k => k = w.heap.size) w.heap.size a (.slice none 0 0) s0 :=
    ⟨fun k hk => by subst hk; simp, rfl, heap_alloc_new w _, EL.nil _, (by intro k hk; cases hk)⟩
  have HL := hid (load_any hsize s hok hM (hD.under hb) (fun hS => by have := hD.below _ hS; omega))
  have HP : Hid (∀ w', OpP S (w.alloc (.cells #[.int .i64 0, .int .i64 0, .int .i64 0, .int .i64 0, .string ⟨#[]⟩, .slice none 0 0, .pointer (some ⟨a, 0, none⟩), .string ⟨#[114]⟩] 41)) w' w.heap.size a size s → ∃ U S' v, LogM w' U w.heap.size a v s ∧ DiskA w' S' a size s.fs ∧ (∀ k, S' k → S k ∨ w.heap.size ≤ k) ∧ (∀ k, S' k → ¬ U k) ∧ Keeps S w w' ∧ (∀ k, U k → w.heap.size ≤ k)) := fun w' hA => by
    obtain ⟨U, S', v, h1, h2, h3, h4, h5, h6, h7⟩ := hA
    have hs6 := h6.size
    simp at hs6
    refine ⟨U, S', v, h1, h2, fun k hk => ?_, h5, ⟨h6.os, h6.tape, h6.output, by omega, fun k hk hn => ?_⟩, fun k hk => ?_⟩
    · rcases h3 k hk with h | h
      · exact .inl h
      · simp at h; exact .inr (by omega)
    · rw [h6.block k (by simp; omega) (fun h => h.elim (fun h => by omega) hn)]
      exact hb.block k hk
    · rcases h7 k hk with h | h
      · omega
      · simp at h; omega
  clear hM hb hD hok
  go_enter Tryz.func6, Tryz.ntmps6
  go_wp2_with (go_at_call 21; refine HL.out.mono ?_; rintro e w1 ⟨rfl, hp⟩; have HQ := hid (HP.out _ hp); clear hp)
  go_ret2
  exact ⟨rfl, HQ.out⟩
/-- A log that is opened anew; the old one beside it. -/
theorem LF.reopen {w0 w : World} {X q a size s} (hsize : size ≤ 8000000) (h : LF w0 w X q a size s) :
    Calls Tryz.prog 6 #[.pointer (some ⟨a, 0, none⟩), .string ⟨#[114]⟩] w fun e w' => e = .returned (.tuple #[.pointer (some ⟨w.heap.size, 0, none⟩), .int .i64 0]) ∧ LFA w0 w w' X w.heap.size a size s ∧ ∃ U v, LogM w' U q a v s := by
  obtain ⟨B, ⟨U, S, v, h1, h2, h3, h4⟩, hk, hB, hb, hX⟩ := h
  refine (open_any hsize s hk h2).mono ?_
  rintro e w' ⟨e1, U', S', v', g1, g2, g3, g5, g4, g6⟩
  have hs := g4.size
  have hbs := hb.size
  refine ⟨e1, ⟨⟨fun k => U' k ∨ S' k, ⟨U', S', v', g1, g2, g5, fun k => Iff.rfl⟩, hk, fun k hk2 => ?_, hb.trans (g4.below hbs (fun k hk2 => (hB k ((h4 k).2 (.inr hk2))).1)), fun k hk2 => by have := hX k hk2; omega⟩, fun k hk2 => g4.block k (hX k hk2) (fun hS => (hB k ((h4 k).2 (.inr hS))).2 hk2), hs⟩, U, v, h1.beside g4 (fun k hU hS => h3 k hS hU)⟩
  rcases hk2 with h | h
  · have := g6 k h
    exact ⟨by omega, fun hx => by have := hX k hx; omega⟩
  · rcases g3 k h with h | h
    · exact hB k ((h4 k).2 (.inr h))
    · exact ⟨by omega, fun hx => by have := hX k hx; omega⟩
end Go.Proofs.YtclldpecbocclaaGreat

