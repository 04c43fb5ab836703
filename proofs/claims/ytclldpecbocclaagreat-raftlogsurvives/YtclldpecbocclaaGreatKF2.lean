/- Open on a disk with the log's file. -/
import Derived.Test.YtclldpecbocclaaGreatKG25
import Derived.Test.YtclldpecbocclaaGreatK26
namespace Go.Proofs.YtclldpecbocclaaGreat
open Go.RowKit Go.Maps
set_option maxRecDepth 100000
set_option linter.unusedSimpArgs false
set_option linter.unusedVariables false

/-- A log with entries alone. -/
def sL (l : List Et) : LSt := ⟨0, 0, e0, l, !l.isEmpty, false, false⟩
theorem sL_nil : sL [] = s0 := rfl
theorem sL_fs {l : List Et} (h : 0 < l.length) : (sL l).fs = fsOf (some (logB l)) none none := by
  cases l with
  | nil => simp at h
  | cons x r => rfl
theorem behind0 : ∀ l : List Et, (∀ x ∈ l, 1 ≤ x.i) → behindN 0 l = 0
  | [], _ => rfl
  | x :: r, h => by
    unfold behindN
    have := h x (by simp)
    rw [if_neg (by omega)]
theorem LOk.chain {s : LSt} (hok : LOk s) : ∀ k x y, s.list[k]? = some y → s.list[k + 1]? = some x → x.i = y.i + 1 ∧ y.t ≤ x.t := by
  intro k x y hy hx
  have h1 := hok.idx k y hy
  have h2 := hok.idx (k + 1) x hx
  have h3 := List.pairwise_cons.1 hok.rise
  refine ⟨by omega, ?_⟩
  have h4 := List.pairwise_iff_getElem.1 h3.2 k (k + 1) (List.getElem?_eq_some_iff.1 hy).1 (List.getElem?_eq_some_iff.1 hx).1 (by omega)
  rw [(List.getElem?_eq_some_iff.1 hy).2, (List.getElem?_eq_some_iff.1 hx).2] at h4
  exact h4
/-- What Open leaves of a log m beside others. -/
def OpP (S : Nat → Prop) (w w' : World) (q a size : Nat) (s : LSt) : Prop :=
  ∃ U S' v, LogM w' U q a v s ∧ DiskA w' S' a size s.fs ∧ (∀ k, S' k → S k ∨ w.heap.size ≤ k) ∧ (∀ k, S k → S' k) ∧ (∀ k, S' k → ¬ U k) ∧ Keeps (fun k => k = q ∨ S k) w w' ∧ (∀ k, U k → k = q ∨ w.heap.size ≤ k)
theorem OpP.next {S : Nat → Prop} {w W w' : World} {q a size s U S' v} (h1 : LogM W U q a v s) (h3 : ∀ k, S' k → S k ∨ w.heap.size ≤ k) (h4 : ∀ k, S k → S' k) (h5 : ∀ k, S' k → ¬ U k) (h6 : Keeps (fun k => k = q ∨ S k) w W) (h7 : ∀ k, U k → k = q ∨ w.heap.size ≤ k) (h : AfterA S' W w' a size s.fs) : OpP S w w' q a size s := by
  obtain ⟨S2, g1, g2, g3, g4⟩ := h
  have hs := h6.size
  refine ⟨U, S2, v, h1.beside g4 (fun k hU hS => h5 k hS hU), g1, fun k hk => ?_, fun k hk => g3 k (h4 k hk), fun k hk hU => ?_, h6.trans g4 (fun x hx => ?_), h7⟩
  · rcases g2 k hk with h | h
    · exact h3 k h
    · exact .inr (by omega)
  · rcases g2 k hk with h | h
    · exact h5 k h hU
    · have := h1.below k hU; omega
  · rcases h3 x hx with h | h
    · exact .inl (.inr h)
    · exact .inr h
theorem load_log {w : World} {S q a size} (hsize : size ≤ 8000000) (l : List Et) (hl : 0 < l.length) (hok : LOk (sL l)) (hM : LogM w (fun k => k = q) q a (.slice none 0 0) s0) (hD : DiskA w S a size (sL l).fs) (hq : ¬ S q) :
    Calls Tryz.prog 21 #[.pointer (some ⟨q, 0, none⟩)] w fun e w' => e = .returned (.int .i64 0) ∧ OpP S w w' q a size (sL l) := by
  have hfs := sL_fs hl
  have hfa := hD.facts.1
  have hsz := hD.facts.2.1
  refine load_walk (a := a) (fun W => Below w.heap.size w W) (fun W => Below w.heap.size w W) (fun W => OpP S w W q a size (sL l)) ?_ ?_ ?_ ?_ ?_ ?_ ?_
  · exact loadTerm_none hM hD (by rw [hfs]; exact look_T _ none none)
  · exact fun W hW => (loadSnap_none (hM.under hW) (hD.under hW) (by rw [hfs]; exact look_S _ none none)).mono fun e w' ⟨e1, e2⟩ => ⟨e1, hW.trans (e2.mono hW.size)⟩
  · intro W hW
    have hW' := hW.out
    refine (loadLog_yes (hM.under hW') (hD.under hW') l (by rw [hfs]; exact look_L _ none none) (by simp [s0, e0]) hok.rng ?_ ?_ ?_ hl).mono ?_
    · intro x hx
      have := hok.idx 0 x hx
      simp [sL, e0] at this
      simp [s0, e0]
      omega
    · exact hok.chain
    · have h6 := total_fs (some (logB l)) none none
      rw [hfs] at hfa
      simp at h6
      omega
    · rintro e w' ⟨rfl, v', w1, rfl, hb, hE, ho⟩
      have hd0 : l.drop (behindN s0.snap.i l) = l := by
        have : behindN s0.snap.i l = 0 := behind0 l (fun x hx => (hok.rng x hx).2.1.1)
        rw [this, List.drop_zero]
      rw [hd0] at hE
      have hbw := hW'.trans (hb.mono hW'.size)
      have hM1 := hM.under hbw
      have hwW := hW'.size
      refine ⟨rfl, fun k => k = q ∨ v'.ownBlock = some k, S, v', ⟨fun k hk => ?_, .inl rfl, ?_, ?_, fun k hk => ⟨.inr hk, ?_⟩⟩, ?_, fun k hk => .inl hk, fun k hk => hk, fun k hk hU => ?_, ?_, fun k hU => ?_⟩
      · rw [set_size]
        rcases hk with rfl | hk
        · exact hM1.lt
        · exact hE.lt k hk
      · rw [set_box hM1.box]
        rfl
      · exact hE.kept (fun k hk => Below.heap_setCell w1 ⟨q, 5, none⟩ v' k (fun e => by have e' : k = q := e; have := ho k hk; have := hM.lt; omega))
      · intro e
        have := ho k hk
        have := hM.lt
        omega
      · exact (hD.under hbw).beside (keeps_set w1 q 5 v') (fun k hk e => hq (by rw [← e]; exact hk))
      · rcases hU with rfl | hU
        · exact hq hk
        · have := ho k hU
          have := hD.below k hk
          omega
      · exact (Keeps.of_below (S := fun k => k = q ∨ S k) hbw).trans (keeps_set w1 q 5 v') (fun x hx => .inl (.inl hx))
      · rcases hU with rfl | hU
        · exact .inl rfl
        · have := ho k hU
          exact .inr (by omega)
  · rintro W ⟨U, S', v, h1, h2, h3, h4, h5, h6, h7⟩
    exact ldisk_any h1
  · rintro W n ⟨U, S', v, h1, h2, h3, h4, h5, h6, h7⟩ hn
    have hs := syncA h2 n (by rcases hn with rfl | rfl | rfl <;> decide)
    rw [hfs, synL_fs _ none none n hn, ← hfs] at hs
    exact hs.mono fun e w' ⟨e1, e2⟩ => ⟨⟨_, e1⟩, OpP.next h1 h3 h4 h5 h6 h7 e2⟩
  · rintro W ⟨U, S', v, h1, h2, h3, h4, h5, h6, h7⟩
    exact h1.c.c7
  · rintro W ⟨U, S', v, h1, h2, h3, h4, h5, h6, h7⟩
    exact ⟨U, S', v, h1.under (Below.refl _ _).drew, h2.under (Below.refl _ _).drew, h3, h4, h5, h6.trans (Keeps.of_below (S := S) (Below.refl _ _).drew) (fun x hx => .inl (.inr hx)), h7⟩
set_option maxHeartbeats 800000 in
theorem open_log {w : World} {S a size} (hsize : size ≤ 8000000) (l : List Et) (hl : 0 < l.length) (hok : LOk (sL l)) (hD : DiskA w S a size (sL l).fs) :
    Calls Tryz.prog 6 #[.pointer (some ⟨a, 0, none⟩), .string ⟨#[114]⟩] w fun e w' => e = .returned (.tuple #[.pointer (some ⟨w.heap.size, 0, none⟩), .int .i64 0]) ∧ ∃ U S' v, LogM w' U w.heap.size a v (sL l) ∧ DiskA w' S' a size (sL l).fs ∧ (∀ k, S' k → S k ∨ w.heap.size ≤ k) ∧ Keeps S w w' := by
  have hb := (Below.refl w.heap.size w).alloc (Nat.le_refl _) (.cells #[.int .i64 0, .int .i64 0, .int .i64 0, .int .i64 0, .string ⟨#[]⟩, .slice none 0 0, .pointer (some ⟨a, 0, none⟩), .string ⟨#[114]⟩] 41)
  have hM : LogM (w.alloc (.cells #[.int .i64 0, .int .i64 0, .int .i64 0, .int .i64 0, .string ⟨#[]⟩, .slice none 0 0, .pointer (some ⟨a, 0, none⟩), .string ⟨#[114]⟩] 41)) (fun k => k = w.heap.size) w.heap.size a (.slice none 0 0) s0 :=
    ⟨fun k hk => by subst hk; simp, rfl, heap_alloc_new w _, EL.nil _, (by intro k hk; cases hk)⟩
  have HL := hid (load_log hsize l hl hok hM (hD.under hb) (fun hS => by have := hD.below _ hS; omega))
  have HP : Hid (∀ w', OpP S (w.alloc (.cells #[.int .i64 0, .int .i64 0, .int .i64 0, .int .i64 0, .string ⟨#[]⟩, .slice none 0 0, .pointer (some ⟨a, 0, none⟩), .string ⟨#[114]⟩] 41)) w' w.heap.size a size (sL l) → ∃ U S' v, LogM w' U w.heap.size a v (sL l) ∧ DiskA w' S' a size (sL l).fs ∧ (∀ k, S' k → S k ∨ w.heap.size ≤ k) ∧ Keeps S w w') := fun w' hA => by
    obtain ⟨U, S', v, h1, h2, h3, h4, h5, h6, h7⟩ := hA
    have hs6 := h6.size
    simp at hs6
    refine ⟨U, S', v, h1, h2, fun k hk => ?_, ⟨h6.os, h6.tape, h6.output, by omega, fun k hk hn => ?_⟩⟩
    · rcases h3 k hk with h | h
      · exact .inl h
      · simp at h; exact .inr (by omega)
    · rw [h6.block k (by simp; omega) (fun h => h.elim (fun h => by omega) hn)]
      exact hb.block k hk
  clear hM hb hD hok
  go_enter Tryz.func6, Tryz.ntmps6
  go_wp2_with (go_at_call 21; refine HL.out.mono ?_; rintro e w1 ⟨rfl, hp⟩; have HQ := hid (HP.out _ hp); clear hp)
  go_ret2
  exact ⟨rfl, HQ.out⟩
/-- A second log on the same disk. -/
theorem LF.again {w0 w : World} {X q a size l} (hsize : size ≤ 8000000) (h : LF w0 w X q a size (sL l)) :
    Calls Tryz.prog 6 #[.pointer (some ⟨a, 0, none⟩), .string ⟨#[114]⟩] w fun e w' => e = .returned (.tuple #[.pointer (some ⟨w.heap.size, 0, none⟩), .int .i64 0]) ∧ LFA w0 w w' X q a size (sL l) ∧ ∃ U v, LogM w' U w.heap.size a v (sL l) := by
  obtain ⟨B, ⟨U, S, v, h1, h2, h3, h4⟩, hk, hB, hb, hX⟩ := h
  have key : ∀ w', (∃ U' S' v', LogM w' U' w.heap.size a v' (sL l) ∧ DiskA w' S' a size (sL l).fs ∧ (∀ k, S' k → S k ∨ w.heap.size ≤ k) ∧ Keeps S w w') → LFA w0 w w' X q a size (sL l) ∧ ∃ U v, LogM w' U w.heap.size a v (sL l) := by
    rintro w' ⟨U', S', v', g1, g2, g3, g4⟩
    have hs := g4.size
    have hbs := hb.size
    refine ⟨⟨⟨fun k => U k ∨ S' k, ⟨U, S', v, h1.beside g4 (fun k hU hS => h3 k hS hU), g2, fun k hS hU => ?_, fun k => Iff.rfl⟩, hk, fun k hk2 => ?_, hb.trans (g4.below hbs (fun k hk2 => (hB k ((h4 k).2 (.inr hk2))).1)), fun k hk2 => by have := hX k hk2; omega⟩, fun k hk2 => g4.block k (hX k hk2) (fun hS => (hB k ((h4 k).2 (.inr hS))).2 hk2), hs⟩, U', v', g1⟩
    · rcases g3 k hS with h | h
      · exact h3 k h hU
      · have := h1.below k hU; omega
    · rcases hk2 with h | h
      · exact hB k ((h4 k).2 (.inl h))
      · rcases g3 k h with h | h
        · exact hB k ((h4 k).2 (.inr h))
        · exact ⟨by omega, fun hx => by have := hX k hx; omega⟩
  rcases Nat.eq_zero_or_pos l.length with h0 | h0
  · have : l = [] := List.eq_nil_of_length_eq_zero h0
    subst this
    refine (open_empty (S := S) (size := size) h2).mono ?_
    rintro e w' ⟨e1, ⟨B', ⟨U', S', v', g1, g2, g3, g4⟩, b2, b3⟩, hk'⟩
    exact ⟨e1, key w' ⟨U', S', v', g1, g2, fun k hk2 => b2 k ((g4 k).2 (.inr hk2)), hk'⟩⟩
  · exact (open_log hsize l h0 hk h2).mono fun e w' ⟨e1, e2⟩ => ⟨e1, key w' e2⟩
end Go.Proofs.YtclldpecbocclaaGreat

