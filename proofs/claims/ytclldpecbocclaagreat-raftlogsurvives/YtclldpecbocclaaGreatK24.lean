/- Turn. -/
import Derived.Test.YtclldpecbocclaaGreatK18
namespace Go.Proofs.YtclldpecbocclaaGreat
open Go.RowKit Go.Maps
set_option maxRecDepth 100000
set_option linter.unusedSimpArgs false
set_option linter.unusedVariables false

theorem LogM.setTV {w : World} {U q a v s} (h : LogM w U q a v s) (t vo : Int) (s' : LSt) (hs' : s'.term = t ∧ s'.vote = vo ∧ s'.snap = s.snap ∧ s'.list = s.list) : LAfter U w ((w.setCell ⟨q, 0, none⟩ (.int .i64 t)).setCell ⟨q, 1, none⟩ (.int .i64 vo)) q a s' := by
  refine ⟨U, v, ⟨fun k hk => by rw [set_size, set_size]; exact h.below k hk, h.self, ?_, ?_, h.own⟩, fun k hk => .inl hk, fun k hk => hk, ?_⟩
  · rw [set_box (set_box h.box), hs'.1, hs'.2.1, hs'.2.2.1]
    rfl
  · rw [hs'.2.2.2]
    refine h.ents.kept (fun k hk => ?_)
    have hne := (h.own k hk).2
    rw [Below.heap_setCell _ ⟨q, 1, none⟩ _ k hne, Below.heap_setCell _ ⟨q, 0, none⟩ _ k hne]
  · have hk : Keeps (fun k => k = q) w ((w.setCell ⟨q, 0, none⟩ (.int .i64 t)).setCell ⟨q, 1, none⟩ (.int .i64 vo)) := (keeps_set _ q 0 _).trans (keeps_set _ q 1 _) (fun x hx => .inl hx)
    exact ⟨hk.os, hk.tape, hk.output, hk.size, fun k h1 h2 => hk.block k h1 (fun e => h2 (by rw [e]; exact h.self))⟩
set_option maxHeartbeats 1600000 in
theorem turn_any {w : World} {B q a size s} (h : LD w B q a size s) (hk : LOk s) (term vote : Int) :
    Calls Tryz.prog 13 #[.pointer (some ⟨q, 0, none⟩), .int .i64 term, .int .i64 vote] w fun e w' => e = .returned (.int .i64 ((turnE size s term vote).1 : Int)) ∧ LDA B w w' q a size (turnE size s term vote).2 := by
  have HSame : Hid (∀ w', Below w.heap.size w w' → LDA B w w' q a size s) := fun w' hb => LDA.same h hb
  obtain ⟨U, S, v, hM, hD, hUS, hB⟩ := h
  have c0 := hM.c.c0
  have c1 := hM.c.c1
  have c7 := hM.c.c7
  by_cases h1 : numB term = false ∨ numB vote = false
  · have HT : Hid (turnE size s term vote = (1, s)) := by show _ = _; unfold turnE; rw [if_pos h1]
    cases b1 : numB term with
    | false =>
      go_enter Tryz.func13, Tryz.ntmps13
      go_wp2_with (go_at_call 27; refine (isNum_any _ _).mono ?_; rintro e w2 ⟨rfl, rfl⟩)
      go_ret
      rw [HT.out]
      exact ⟨rfl, HSame.out _ (Below.refl _ _)⟩
    | true =>
      have b2 : numB vote = false := by rcases h1 with h | h; rw [b1] at h; cases h; exact h
      go_enter Tryz.func13, Tryz.ntmps13
      go_wp2_with (go_at_call 27; refine (isNum_any _ _).mono ?_; rintro e w2 ⟨rfl, rfl⟩)
      go_ret
      rw [HT.out]
      exact ⟨rfl, HSame.out _ (Below.refl _ _)⟩
  · have b1 : numB term = true := by cases hb : numB term; exact absurd (.inl hb) h1; rfl
    have b2 : numB vote = true := by cases hb : numB vote; exact absurd (.inr hb) h1; rfl
    have r1 := (numB_iff _).1 b1
    have r2 := (numB_iff _).1 b2
    by_cases h2 : term < s.term
    · have HT : Hid (turnE size s term vote = (13, s)) := by show _ = _; unfold turnE; rw [if_neg h1, if_pos h2]
      clear hM hD hUS hB hk h1
      generalize s.term = ST at *
      generalize s.vote = SV at *
      go_enter Tryz.func13, Tryz.ntmps13
      go_wp2_with (go_at_call 27; refine (isNum_any _ _).mono ?_; rintro e w2 ⟨rfl, rfl⟩)
      go_ret
      rw [HT.out]
      exact ⟨rfl, HSame.out _ (Below.refl _ _)⟩
    · by_cases h3 : term = s.term ∧ vote = s.vote
      · have HT : Hid (turnE size s term vote = (0, s)) := by show _ = _; unfold turnE; rw [if_neg h1, if_neg h2, if_pos h3]
        have e1 : (term == s.term) = true := by simp [h3.1]
        have e2 : (vote == s.vote) = true := by simp [h3.2]
        clear hM hD hUS hB hk h3 h1
        generalize s.term = ST at *
        generalize s.vote = SV at *
        go_enter Tryz.func13, Tryz.ntmps13
        go_wp2_with (go_at_call 27; refine (isNum_any _ _).mono ?_; rintro e w2 ⟨rfl, rfl⟩)
        go_ret
        rw [HT.out]
        exact ⟨rfl, HSame.out _ (Below.refl _ _)⟩
      · by_cases h4 : term = s.term ∧ s.vote ≠ 0
        · have HT : Hid (turnE size s term vote = (19, s)) := by show _ = _; unfold turnE; rw [if_neg h1, if_neg h2, if_neg h3, if_pos h4]
          have e1 : (term == s.term) = true := by simp [h4.1]
          have e2 : (vote == s.vote) = false := by have := h4.1; simp; exact fun hv => h3 ⟨this, hv⟩
          have e3 : (s.vote != 0) = true := by simp [h4.2]
          clear hM hD hUS hB hk h3 h4 h1
          generalize s.term = ST at *
          generalize s.vote = SV at *
          go_enter Tryz.func13, Tryz.ntmps13
          go_wp2_with (go_at_call 27; refine (isNum_any _ _).mono ?_; rintro e w2 ⟨rfl, rfl⟩)
          go_ret
          rw [HT.out]
          exact ⟨rfl, HSame.out _ (Below.refl _ _)⟩
        · have HT : Hid (turnE size s term vote = if repE size s.fs nT (strOf (termB term vote)) ≠ 0 then (repE size s.fs nT (strOf (termB term vote)), s) else (0, { s with term := term, vote := vote, ht := true })) := by show _ = _; unfold turnE; rw [if_neg h1, if_neg h2, if_neg h3, if_neg h4]
          have H24 : Hid (∀ W, Below w.heap.size w W → Calls Tryz.prog 28 #[.pointer (some ⟨q, 0, none⟩)] W fun e w' => e = .returned (.pointer (some ⟨a, 0, none⟩)) ∧ W = w') := fun W hW => ldisk_any (hM.under hW)
          have H35 : Hid (∀ W, Below w.heap.size w W → Calls Tryz.prog 30 #[.int .i64 term, .int .i64 vote] W fun e w' => e = .returned (.string (strOf (termB term vote))) ∧ Below w.heap.size w w' ∧ w'.cell? ⟨q, 7, none⟩ = some (.string ⟨#[114]⟩)) := fun W hW => (termText_any term vote W ⟨by omega, by omega⟩ ⟨by omega, by omega⟩).mono fun e w' ⟨e1, e2⟩ => by
            have hb := hW.trans (e2.mono hW.size)
            exact ⟨e1, hb, (hM.under hb).c.c7⟩
          have hlt := intsL_length [term, vote]
          have hsl := sealL_length (intsL [term, vote])
          have H25 : Hid (∀ W, Below w.heap.size w W → Calls Tryz.prog 29 #[.pointer (some ⟨a, 0, none⟩), .string nT, .string (strOf (termB term vote))] W fun e w' => e = .returned (.int .i64 (repE size s.fs nT (strOf (termB term vote)) : Int)) ∧ Hid (AfterA S w w' a size (repL size s.fs nT (strOf (termB term vote)))) ∧ (w'.cell? ⟨q, 0, none⟩ = some (.int .i64 s.term) ∧ w'.frozen? ⟨q, 0, none⟩ = false ∧ w'.cell? ⟨q, 1, none⟩ = some (.int .i64 s.vote) ∧ w'.frozen? ⟨q, 1, none⟩ = false) ∧ w'.cell? ⟨q, 7, none⟩ = some (.string ⟨#[114]⟩)) := fun W hW => (replaceA (hD.under hW) nT (strOf (termB term vote)) (by decide) (by rw [strOf_size]; unfold termB maxLen; simp at *; omega)).mono fun e w' ⟨e1, e2⟩ => by
            have hA := AfterA.begun hW e2
            obtain ⟨S', g1, g2, g3, g4⟩ := id hA
            have hM1 := hM.beside g4 (fun k hU hS => hUS k hS hU)
            exact ⟨e1, hA, ⟨hM1.c.c0, hM1.f 0, hM1.c.c1, hM1.f 1⟩, hM1.c.c7⟩
          obtain ⟨_, R2, R3⟩ := rep_T size (lB s) (sB s) (tB s) (termB term vote)
          have HR2 : Hid (repE size s.fs nT (strOf (termB term vote)) = 0 → repL size s.fs nT (strOf (termB term vote)) = fsOf (lB s) (sB s) (some (termB term vote))) := R2
          have HR3 : Hid (repE size s.fs nT (strOf (termB term vote)) ≠ 0 → repL size s.fs nT (strOf (termB term vote)) = s.fs) := R3
          have HOk : Hid (∀ w1, AfterA S w w1 a size (fsOf (lB s) (sB s) (some (termB term vote))) → LDA B w ((w1.setCell ⟨q, 0, none⟩ (.int .i64 term)).setCell ⟨q, 1, none⟩ (.int .i64 vote)) q a size { s with term := term, vote := vote, ht := true }) := fun w1 hA => LDA.of hM hD hUS hB (s' := { s with term := term, vote := vote, ht := true }) hA (fun hM1 => hM1.setTV term vote _ ⟨rfl, rfl, rfl, rfl⟩)
          have HNo : Hid (∀ w1, AfterA S w w1 a size s.fs → LDA B w w1 q a size s) := fun w1 hA => LDA.of hM hD hUS hB hA (fun hM1 => LAfter.same hM1 (Below.refl _ _))
          have e12 : Hid (((term == s.term) = false) ∨ ((term == s.term) = true ∧ (vote == s.vote) = false ∧ (s.vote != 0) = false)) := by
            by_cases ht : term = s.term
            · refine .inr ⟨by simp [ht], ?_, ?_⟩
              · simp; exact fun hv => h3 ⟨ht, hv⟩
              · simp; exact Decidable.byContradiction fun hv => h4 ⟨ht, hv⟩
            · exact .inl (by simp [ht])
          have hnm : (⟨#[114]⟩ ++ ⟨#[46, 116, 101, 114, 109]⟩ : ByteArray) = nT := by decide
          clear hM hD hUS hB hk h3 h4 R2 R3 hlt hsl h1
          generalize hE : repE size s.fs nT (strOf (termB term vote)) = E at *
          generalize repL size s.fs nT (strOf (termB term vote)) = FL at *
          generalize termB term vote = TB at *
          generalize s.term = ST at *
          generalize s.vote = SV at *
          clear hE
          rcases e12.out with e1 | ⟨e1, e2, e3⟩
          all_goals
            go_enter Tryz.func13, Tryz.ntmps13
            go_wp2_with (go_at_call 27; refine (isNum_any _ _).mono ?_; rintro e w2 ⟨rfl, rfl⟩)
            go_region_held3 (fun w' => w'.cell? ⟨q, 7, none⟩ = some (.string ⟨#[114]⟩)) (first | exact p4 | exact p3 | exact c7 | go_keep)
              (first
              | (go_at_call 28; refine (H24.out _ (by first | exact Below.refl _ _ | exact (Below.refl _ _).drew | exact hb3 | exact hb3.drew)).mono ?_; rintro e w2 ⟨rfl, rfl⟩)
              | (go_at_call 30; refine (H35.out _ (by first | exact Below.refl _ _ | exact (Below.refl _ _).drew)).mono ?_; rintro e w3 ⟨rfl, hb3, p3⟩)
              | (go_at_call 29; refine (H25.out _ (by first | exact hb3 | exact hb3.drew)).mono ?_; rintro e w4 ⟨rfl, HA4, ⟨y0, g0, y1, g1⟩, p4⟩)
              | fail)
            all_goals
              by_cases hE0 : E = 0
              · have HF : Hid (FL = fsOf (lB s) (sB s) (some TB)) := HR2.out hE0
                have hE' : ((E : Int) != 0) = false := by simp [hE0]
                have HT' : Hid (turnE size s term vote = (0, { s with term := term, vote := vote, ht := true })) := by have := HT.out; rw [if_neg (fun h => h hE0)] at this; exact this
                clear hE0
                go_wp2_with fail
                go_ret
                rw [HT'.out]
                exact ⟨rfl, HOk.out _ (by rw [← HF.out]; exact HA4.out)⟩
              · have HF : Hid (FL = s.fs) := HR3.out hE0
                have hE' : ((E : Int) != 0) = true := by simp; omega
                have HT' : Hid (turnE size s term vote = (E, s)) := by have := HT.out; rw [if_pos hE0] at this; exact this
                clear hE0
                go_wp2_with fail
                go_ret
                rw [HT'.out]
                exact ⟨rfl, HNo.out _ (by rw [← HF.out]; exact HA4.out)⟩
end Go.Proofs.YtclldpecbocclaaGreat

