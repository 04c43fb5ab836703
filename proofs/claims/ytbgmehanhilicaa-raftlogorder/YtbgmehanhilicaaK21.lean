/- Turn. -/
import Derived.Test.YtbgmehanhilicaaK18
import Derived.Test.YtbgmehanhilicaaK20
namespace Go.Proofs.Ytbgmehanhilicaa
open Go.RowKit Go.Maps
set_option maxRecDepth 100000
set_option linter.unusedSimpArgs false
set_option linter.unusedVariables false

theorem LogM.setTV {w : World} {U q a v s} (h : LogM w U q a v s) (t vo : Int) (s' : LSt) (hs' : s'.term = t ∧ s'.vote = vo ∧ s'.snap = s.snap ∧ s'.list = s.list) : LAfter U w ((w.setCell ⟨q, 0, none⟩ (.int .i64 t)).setCell ⟨q, 1, none⟩ (.int .i64 vo)) q a s' := by
  refine ⟨U, v, ⟨fun k hk => by rw [set_size, set_size]; exact h.below k hk, h.self, ?_, ?_, h.own⟩, fun k hk => .inl hk, fun k hk => hk, ?_⟩
  · rw [set_box (set_box h.box), hs'.1, hs'.2.1, hs'.2.2.1]
    rfl
  · rw [hs'.2.2.2]
    refine h.ents.kept (fun k hk => ?_)
    have hne := (h.own k hk).2
    rw [Below.heap_setCell _ ⟨q, 1, none⟩ _ k hne, Below.heap_setCell _ ⟨q, 0, none⟩ _ k hne]
  · have hk : Keeps (fun k => k = q) w ((w.setCell ⟨q, 0, none⟩ (.int .i64 t)).setCell ⟨q, 1, none⟩ (.int .i64 vo)) := (keeps_set _ q 0 _).trans (keeps_set _ q 1 _) (fun x hx => .inl hx)
    exact ⟨hk.os, hk.tape, hk.output, hk.size, fun k h1 h2 => hk.block k h1 (fun e => h2 (by rw [e]; exact h.self))⟩
set_option maxHeartbeats 1600000 in
theorem turn_any {w : World} {B q a size s} (h : LD w B q a size s) (hk : LOk s) (term vote : Int) :
    Calls Try.prog 17 #[.pointer (some ⟨q, 0, none⟩), .int .i64 term, .int .i64 vote] w fun e w' => e = .returned (.int .i64 ((turnE size s term vote).1 : Int)) ∧ LDA B w w' q a size (turnE size s term vote).2 := by
  have HSame : Hid (∀ w', Below w.heap.size w w' → LDA B w w' q a size s) := fun w' hb => LDA.same h hb
  obtain ⟨U, S, v, hM, hD, hUS, hB⟩ := h
  have c0 := hM.c.c0
  have c1 := hM.c.c1
  have c7 := hM.c.c7
  by_cases h1 : numB term = false ∨ numB vote = false
  · have HT : Hid (turnE size s term vote = (1, s)) := by show _ = _; unfold turnE; rw [if_pos h1]
    cases b1 : numB term with
    | false =>
      go_enter Try.func17, Try.ntmps17
      go_wp2_with (go_at_call 34; refine (isNum_any _ _).mono ?_; rintro e w2 ⟨rfl, rfl⟩)
      go_ret
      rw [HT.out]
      exact ⟨rfl, HSame.out _ (Below.refl _ _)⟩
    | true =>
      have b2 : numB vote = false := by rcases h1 with h | h; rw [b1] at h; cases h; exact h
      go_enter Try.func17, Try.ntmps17
      go_wp2_with (go_at_call 34; refine (isNum_any _ _).mono ?_; rintro e w2 ⟨rfl, rfl⟩)
      go_ret
      rw [HT.out]
      exact ⟨rfl, HSame.out _ (Below.refl _ _)⟩
  · have b1 : numB term = true := by cases hb : numB term; exact absurd (.inl hb) h1; rfl
    have b2 : numB vote = true := by cases hb : numB vote; exact absurd (.inr hb) h1; rfl
    have r1 := (numB_iff _).1 b1
    have r2 := (numB_iff _).1 b2
    by_cases h2 : term < s.term
    · have HT : Hid (turnE size s term vote = (13, s)) := by show _ = _; unfold turnE; rw [if_neg h1, if_pos h2]
      clear hM hD hUS hB hk h1
      generalize s.term = ST at *
      generalize s.vote = SV at *
      go_enter Try.func17, Try.ntmps17
      go_wp2_with (go_at_call 34; refine (isNum_any _ _).mono ?_; rintro e w2 ⟨rfl, rfl⟩)
      go_ret
      rw [HT.out]
      exact ⟨rfl, HSame.out _ (Below.refl _ _)⟩
    · by_cases h3 : term = s.term ∧ vote = s.vote
      · have HT : Hid (turnE size s term vote = (0, s)) := by show _ = _; unfold turnE; rw [if_neg h1, if_neg h2, if_pos h3]
        have e1 : (term == s.term) = true := by simp [h3.1]
        have e2 : (vote == s.vote) = true := by simp [h3.2]
        clear hM hD hUS hB hk h3 h1
        generalize s.term = ST at *
        generalize s.vote = SV at *
        go_enter Try.func17, Try.ntmps17
        go_wp2_with (go_at_call 34; refine (isNum_any _ _).mono ?_; rintro e w2 ⟨rfl, rfl⟩)
        go_ret
        rw [HT.out]
        exact ⟨rfl, HSame.out _ (Below.refl _ _)⟩
      · by_cases h4 : term = s.term ∧ s.vote ≠ 0
        · have HT : Hid (turnE size s term vote = (19, s)) := by show _ = _; unfold turnE; rw [if_neg h1, if_neg h2, if_neg h3, if_pos h4]
          have e1 : (term == s.term) = true := by simp [h4.1]
          have e2 : (vote == s.vote) = false := by have := h4.1; simp; exact fun hv => h3 ⟨this, hv⟩
          have e3 : (s.vote != 0) = true := by simp [h4.2]
          clear hM hD hUS hB hk h3 h4 h1
          generalize s.term = ST at *
          generalize s.vote = SV at *
          go_enter Try.func17, Try.ntmps17
          go_wp2_with (go_at_call 34; refine (isNum_any _ _).mono ?_; rintro e w2 ⟨rfl, rfl⟩)
          go_ret
          rw [HT.out]
          exact ⟨rfl, HSame.out _ (Below.refl _ _)⟩
        · have HT : Hid (turnE size s term vote = if repE size s.fs nT (strOf (termB term vote)) ≠ 0 then (repE size s.fs nT (strOf (termB term vote)), s) else (0, { s with term := term, vote := vote, ht := true })) := by show _ = _; unfold turnE; rw [if_neg h1, if_neg h2, if_neg h3, if_neg h4]
          have H24 : Hid (∀ W, Below w.heap.size w W → Calls Try.prog 24 #[.pointer (some ⟨q, 0, none⟩)] W fun e w' => e = .returned (.pointer (some ⟨a, 0, none⟩)) ∧ W = w') := fun W hW => ldisk_any (hM.under hW)
          have H35 : Hid (∀ W, Below w.heap.size w W → Calls Try.prog 35 #[.int .i64 term, .int .i64 vote] W fun e w' => e = .returned (.string (strOf (termB term vote))) ∧ Below w.heap.size w w' ∧ w'.cell? ⟨q, 7, none⟩ = some (.string ⟨#[114]⟩)) := fun W hW => (termText_any term vote W ⟨by omega, by omega⟩ ⟨by omega, by omega⟩).mono fun e w' ⟨e1, e2⟩ => by
            have hb := hW.trans (e2.mono hW.size)
            exact ⟨e1, hb, (hM.under hb).c.c7⟩
          have hlt := intsL_length [term, vote]
          have hsl := sealL_length (intsL [term, vote])
          have H25 : Hid (∀ W, Below w.heap.size w W → Calls Try.prog 25 #[.pointer (some ⟨a, 0, none⟩), .string nT, .string (strOf (termB term vote))] W fun e w' => e = .returned (.int .i64 (repE size s.fs nT (strOf (termB term vote)) : Int)) ∧ Hid (AfterA S w w' a size (repL size s.fs nT (strOf (termB term vote)))) ∧ (w'.cell? ⟨q, 0, none⟩ = some (.int .i64 s.term) ∧ w'.frozen? ⟨q, 0, none⟩ = false ∧ w'.cell? ⟨q, 1, none⟩ = some (.int .i64 s.vote) ∧ w'.frozen? ⟨q, 1, none⟩ = false) ∧ w'.cell? ⟨q, 7, none⟩ = some (.string ⟨#[114]⟩)) := fun W hW => (replaceA (hD.under hW) nT (strOf (termB term vote)) (by decide) (by rw [strOf_size]; unfold termB maxLen; simp at *; omega)).mono fun e w' ⟨e1, e2⟩ => by
            have hA := AfterA.begun hW e2
            obtain ⟨S', g1, g2, g3, g4⟩ := id hA
            have hM1 := hM.beside g4 (fun k hU hS => hUS k hS hU)
            exact ⟨e1, hA, ⟨hM1.c.c0, hM1.f 0, hM1.c.c1, hM1.f 1⟩, hM1.c.c7⟩
          obtain ⟨_, R2, R3⟩ := rep_T size (lB s) (sB s) (tB s) (termB term vote)
          have HR2 : Hid (repE size s.fs nT (strOf (termB term vote)) = 0 → repL size s.fs nT (strOf (termB term vote)) = fsOf (lB s) (sB s) (some (termB term vote))) := R2
          have HR3 : Hid (repE size s.fs nT (strOf (termB term vote)) ≠ 0 → repL size s.fs nT (strOf (termB term vote)) = s.fs) := R3
          have HOk : Hid (∀ w1, AfterA S w w1 a size (fsOf (lB s) (sB s) (some (termB term vote))) → LDA B w ((w1.setCell ⟨q, 0, none⟩ (.int .i64 term)).setCell ⟨q, 1, none⟩ (.int .i64 vote)) q a size { s with term := term, vote := vote, ht := true }) := fun w1 hA => LDA.of hM hD hUS hB (s' := { s with term := term, vote := vote, ht := true }) hA (fun hM1 => hM1.setTV term vote _ ⟨rfl, rfl, rfl, rfl⟩)
          have HNo : Hid (∀ w1, AfterA S w w1 a size s.fs → LDA B w w1 q a size s) := fun w1 hA => LDA.of hM hD hUS hB hA (fun hM1 => LAfter.same hM1 (Below.refl _ _))
          have e12 : Hid (((term == s.term) = false) ∨ ((term == s.term) = true ∧ (vote == s.vote) = false ∧ (s.vote != 0) = false)) := by
            by_cases ht : term = s.term
            · refine .inr ⟨by simp [ht], ?_, ?_⟩
              · simp; exact fun hv => h3 ⟨ht, hv⟩
              · simp; exact Decidable.byContradiction fun hv => h4 ⟨ht, hv⟩
            · exact .inl (by simp [ht])
          have hnm : (⟨#[114]⟩ ++ ⟨#[46, 116, 101, 114, 109]⟩ : ByteArray) = nT := by decide
          clear hM hD hUS hB hk h3 h4 R2 R3 hlt hsl h1
          generalize hE : repE size s.fs nT (strOf (termB term vote)) = E at *
          generalize repL size s.fs nT (strOf (termB term vote)) = FL at *
          generalize termB term vote = TB at *
          generalize s.term = ST at *
          generalize s.vote = SV at *
          clear hE
          rcases e12.out with e1 | ⟨e1, e2, e3⟩
          all_goals
            go_enter Try.func17, Try.ntmps17
            go_wp2_with (go_at_call 34; refine (isNum_any _ _).mono ?_; rintro e w2 ⟨rfl, rfl⟩)
            go_region_held3 (fun w' => w'.cell? ⟨q, 7, none⟩ = some (.string ⟨#[114]⟩)) (first | exact p4 | exact p3 | exact c7 | go_keep)
              (first
              | (go_at_call 24; refine (H24.out _ (by first | exact Below.refl _ _ | exact (Below.refl _ _).drew | exact hb3 | exact hb3.drew)).mono ?_; rintro e w2 ⟨rfl, rfl⟩)
              | (go_at_call 35; refine (H35.out _ (by first | exact Below.refl _ _ | exact (Below.refl _ _).drew)).mono ?_; rintro e w3 ⟨rfl, hb3, p3⟩)
              | (go_at_call 25; refine (H25.out _ (by first | exact hb3 | exact hb3.drew)).mono ?_; rintro e w4 ⟨rfl, HA4, ⟨y0, g0, y1, g1⟩, p4⟩)
              | fail)
            all_goals
              by_cases hE0 : E = 0
              · have HF : Hid (FL = fsOf (lB s) (sB s) (some TB)) := HR2.out hE0
                have hE' : ((E : Int) != 0) = false := by simp [hE0]
                have HT' : Hid (turnE size s term vote = (0, { s with term := term, vote := vote, ht := true })) := by have := HT.out; rw [if_neg (fun h => h hE0)] at this; exact this
                clear hE0
                go_wp2_with fail
                go_ret
                rw [HT'.out]
                exact ⟨rfl, HOk.out _ (by rw [← HF.out]; exact HA4.out)⟩
              · have HF : Hid (FL = s.fs) := HR3.out hE0
                have hE' : ((E : Int) != 0) = true := by simp; omega
                have HT' : Hid (turnE size s term vote = (E, s)) := by have := HT.out; rw [if_pos hE0] at this; exact this
                clear hE0
                go_wp2_with fail
                go_ret
                rw [HT'.out]
                exact ⟨rfl, HNo.out _ (by rw [← HF.out]; exact HA4.out)⟩
end Go.Proofs.Ytbgmehanhilicaa

/- load, on files as they may be; Open on an empty disk. -/
namespace Go.Proofs.Ytbgmehanhilicaa
open Go.RowKit Go.Maps
set_option maxRecDepth 100000
set_option linter.unusedSimpArgs false
set_option linter.unusedVariables false

theorem index73 (u0 u1 u2 : Value) (w : World) : (Instr.index 73 (.agg #[u0, u1, u2]) (.int .i64 0)).run Try.prog w = .ok u0 w ∧ (Instr.index 73 (.agg #[u0, u1, u2]) (.int .i64 1)).run Try.prog w = .ok u1 w ∧ (Instr.index 73 (.agg #[u0, u1, u2]) (.int .i64 2)).run Try.prog w = .ok u2 w := by
  refine ⟨?_, ?_, ?_⟩ <;> kernel_rfl
set_option maxHeartbeats 3200000 in
theorem load_walk {w : World} {q a : Nat} (M1 M2 M3 : World → Prop)
    (H36 : Hid (Calls Try.prog 36 #[.pointer (some ⟨q, 0, none⟩)] w fun e w' => e = .returned (.int .i64 0) ∧ Hid (M1 w')))
    (H37 : Hid (∀ W, Hid (M1 W) → Calls Try.prog 37 #[.pointer (some ⟨q, 0, none⟩)] W fun e w' => e = .returned (.int .i64 0) ∧ Hid (M2 w')))
    (H38 : Hid (∀ W, Hid (M2 W) → Calls Try.prog 38 #[.pointer (some ⟨q, 0, none⟩)] W fun e w' => e = .returned (.int .i64 0) ∧ Hid (M3 w')))
    (H24 : Hid (∀ W, Hid (M3 W) → Calls Try.prog 24 #[.pointer (some ⟨q, 0, none⟩)] W fun e w' => e = .returned (.pointer (some ⟨a, 0, none⟩)) ∧ W = w'))
    (H39 : Hid (∀ W n, Hid (M3 W) → n = nT ∨ n = nS ∨ n = nL → Calls Try.prog 39 #[.pointer (some ⟨a, 0, none⟩), .string n] W fun e w' => (∃ c : Int, e = .returned (.int .i64 c)) ∧ Hid (M3 w')))
    (HC : Hid (∀ W, Hid (M3 W) → W.cell? ⟨q, 7, none⟩ = some (.string ⟨#[114]⟩))) (HD : Hid (∀ W, Hid (M3 W) → Hid (M3 W.drew))) :
    Calls Try.prog 21 #[.pointer (some ⟨q, 0, none⟩)] w fun e w' => e = .returned (.int .i64 0) ∧ M3 w' := by
  have hnT : (⟨#[114]⟩ ++ ⟨#[46, 116, 101, 114, 109]⟩ : ByteArray) = nT := by decide
  have hnS : (⟨#[114]⟩ ++ ⟨#[46, 115, 110, 97, 112]⟩ : ByteArray) = nS := by decide
  have hnL : (⟨#[114]⟩ ++ ⟨#[46, 108, 111, 103]⟩ : ByteArray) = nL := by decide
  go_enter Try.func21, Try.ntmps21
  go_wp2_with (first | (go_at_call 36; refine H36.out.mono ?_; rintro e w1 ⟨rfl, HM1⟩) | (go_at_call 37; refine (H37.out _ HM1).mono ?_; rintro e w2 ⟨rfl, HM2⟩) | (go_at_call 38; refine (H38.out _ HM2).mono ?_; rintro e w3 ⟨rfl, HM3⟩))
  go_loopg [24] 3 (fun kx s24 wr => ∃ k : Nat, k ≤ 3 ∧ 3 - k ≤ kx ∧ s24 = .int .i64 (k : Int) ∧ Hid (M3 wr))
  case atStart => exact ⟨0, by omega, by omega, rfl, HM3⟩
  case round =>
    obtain ⟨k, hk, hkx, rfl, HM⟩ := hrel
    clear HM3
    have hk4 : k = 0 ∨ k = 1 ∨ k = 2 ∨ k = 3 := by omega
    have c7 := HC.out _ HM
    have x0 := fun u0 u1 u2 W => (index73 u0 u1 u2 W).1
    have x1 := fun u0 u1 u2 W => (index73 u0 u1 u2 W).2.1
    have x2 := fun u0 u1 u2 W => (index73 u0 u1 u2 W).2.2
    rcases hk4 with rfl | rfl | rfl | rfl
    · go_wp2_with fail
      go_region_held3 (fun w' => w'.cell? ⟨q, 7, none⟩ = some (.string ⟨#[114]⟩)) (first | exact p5 | exact c7 | go_keep)
        (first
        | (go_at_call 24; refine (H24.out _ (by first | exact HM | exact HD.out _ HM)).mono ?_; rintro e w4 ⟨rfl, rfl⟩)
        | (go_at_call 39; refine (H39.out _ _ (by first | exact HM | exact HD.out _ HM) (by simp)).mono ?_; rintro e w5 ⟨⟨c, rfl⟩, HM5⟩; have p5 := HC.out _ HM5)
        | fail)
      all_goals
        go_wp2_with fail
        go_roundg (2)
        case measure => omega
        case rel => exact ⟨1, by omega, by omega, by first | rfl | go_num, HM5⟩
    · go_wp2_with fail
      go_region_held3 (fun w' => w'.cell? ⟨q, 7, none⟩ = some (.string ⟨#[114]⟩)) (first | exact p5 | exact c7 | go_keep)
        (first
        | (go_at_call 24; refine (H24.out _ (by first | exact HM | exact HD.out _ HM)).mono ?_; rintro e w4 ⟨rfl, rfl⟩)
        | (go_at_call 39; refine (H39.out _ _ (by first | exact HM | exact HD.out _ HM) (by simp)).mono ?_; rintro e w5 ⟨⟨c, rfl⟩, HM5⟩; have p5 := HC.out _ HM5)
        | fail)
      all_goals
        go_wp2_with fail
        go_roundg (1)
        case measure => omega
        case rel => exact ⟨2, by omega, by omega, by first | rfl | go_num, HM5⟩
    · go_wp2_with fail
      go_region_held3 (fun w' => w'.cell? ⟨q, 7, none⟩ = some (.string ⟨#[114]⟩)) (first | exact p5 | exact c7 | go_keep)
        (first
        | (go_at_call 24; refine (H24.out _ (by first | exact HM | exact HD.out _ HM)).mono ?_; rintro e w4 ⟨rfl, rfl⟩)
        | (go_at_call 39; refine (H39.out _ _ (by first | exact HM | exact HD.out _ HM) (by simp)).mono ?_; rintro e w5 ⟨⟨c, rfl⟩, HM5⟩; have p5 := HC.out _ HM5)
        | fail)
      all_goals
        go_wp2_with fail
        go_roundg (0)
        case measure => omega
        case rel => exact ⟨3, by omega, by omega, by first | rfl | go_num, HM5⟩
    · go_wp2_with fail
      go_ret
      exact ⟨rfl, HM.out⟩
set_option maxHeartbeats 1600000 in
theorem loadTerm_none {w : World} {U S q a v s size F} (hM : LogM w U q a v s) (hD : DiskA w S a size F) (hF : alook F nT.data.toList = none) : Calls Try.prog 36 #[.pointer (some ⟨q, 0, none⟩)] w fun e w' => e = .returned (.int .i64 0) ∧ Below w.heap.size w w' := by
  have c7 := hM.c.c7
  have H24 : Hid (∀ W, Below w.heap.size w W → Calls Try.prog 24 #[.pointer (some ⟨q, 0, none⟩)] W fun e w' => e = .returned (.pointer (some ⟨a, 0, none⟩)) ∧ W = w') := fun W hW => ldisk_any (hM.under hW)
  have H48 : Hid (∀ W, Below w.heap.size w W → Calls Try.prog 48 #[.pointer (some ⟨a, 0, none⟩), .string nT] W fun e w' => e = .returned (.tuple #[.string (strOf []), .int .i64 8]) ∧ Below w.heap.size w w' ∧ w'.cell? ⟨q, 7, none⟩ = some (.string ⟨#[114]⟩)) := fun W hW => by
    have h1 := readA (hD.under hW) nT (by decide)
    have e1 : abytes F nT.data.toList = [] := by unfold abytes; rw [hF]
    have e2 : synE F nT = 8 := by unfold synE; rw [hF]; rfl
    rw [e1, e2] at h1
    exact h1.mono fun e w' ⟨g1, g2⟩ => ⟨g1, hW.trans (g2.mono hW.size), (hM.under (hW.trans (g2.mono hW.size))).c.c7⟩
  have hn : (⟨#[114]⟩ ++ ⟨#[46, 116, 101, 114, 109]⟩ : ByteArray) = nT := by decide
  clear hM hD hF
  go_enter Try.func36, Try.ntmps36
  go_wp2_with fail
  go_region_held3 (fun w' => w'.cell? ⟨q, 7, none⟩ = some (.string ⟨#[114]⟩)) (first | exact p3 | exact c7 | go_keep)
    (first
    | (go_at_call 24; refine (H24.out _ (by first | exact Below.refl _ _ | exact (Below.refl _ _).drew)).mono ?_; rintro e w2 ⟨rfl, rfl⟩)
    | (go_at_call 48; refine (H48.out _ (by first | exact Below.refl _ _ | exact (Below.refl _ _).drew)).mono ?_; rintro e w3 ⟨rfl, hb3, p3⟩)
    | fail)
  all_goals
    go_wp2_with fail
    go_ret
    exact ⟨rfl, by first | exact hb3 | exact hb3.drew⟩
set_option maxHeartbeats 1600000 in
theorem loadSnap_none {w : World} {U S q a v s size F} (hM : LogM w U q a v s) (hD : DiskA w S a size F) (hF : alook F nS.data.toList = none) : Calls Try.prog 37 #[.pointer (some ⟨q, 0, none⟩)] w fun e w' => e = .returned (.int .i64 0) ∧ Below w.heap.size w w' := by
  have c7 := hM.c.c7
  have H24 : Hid (∀ W, Below w.heap.size w W → Calls Try.prog 24 #[.pointer (some ⟨q, 0, none⟩)] W fun e w' => e = .returned (.pointer (some ⟨a, 0, none⟩)) ∧ W = w') := fun W hW => ldisk_any (hM.under hW)
  have H48 : Hid (∀ W, Below w.heap.size w W → Calls Try.prog 48 #[.pointer (some ⟨a, 0, none⟩), .string nS] W fun e w' => e = .returned (.tuple #[.string (strOf []), .int .i64 8]) ∧ Below w.heap.size w w' ∧ w'.cell? ⟨q, 7, none⟩ = some (.string ⟨#[114]⟩)) := fun W hW => by
    have h1 := readA (hD.under hW) nS (by decide)
    have e1 : abytes F nS.data.toList = [] := by unfold abytes; rw [hF]
    have e2 : synE F nS = 8 := by unfold synE; rw [hF]; rfl
    rw [e1, e2] at h1
    exact h1.mono fun e w' ⟨g1, g2⟩ => ⟨g1, hW.trans (g2.mono hW.size), (hM.under (hW.trans (g2.mono hW.size))).c.c7⟩
  have hn : (⟨#[114]⟩ ++ ⟨#[46, 115, 110, 97, 112]⟩ : ByteArray) = nS := by decide
  clear hM hD hF
  go_enter Try.func37, Try.ntmps37
  go_wp2_with fail
  go_region_held3 (fun w' => w'.cell? ⟨q, 7, none⟩ = some (.string ⟨#[114]⟩)) (first | exact p3 | exact c7 | go_keep)
    (first
    | (go_at_call 24; refine (H24.out _ (by first | exact Below.refl _ _ | exact (Below.refl _ _).drew)).mono ?_; rintro e w2 ⟨rfl, rfl⟩)
    | (go_at_call 48; refine (H48.out _ (by first | exact Below.refl _ _ | exact (Below.refl _ _).drew)).mono ?_; rintro e w3 ⟨rfl, hb3, p3⟩)
    | fail)
  all_goals
    go_wp2_with fail
    go_ret
    exact ⟨rfl, by first | exact hb3 | exact hb3.drew⟩
set_option maxHeartbeats 1600000 in
theorem loadLog_none {w : World} {U S q a v s size F} (hM : LogM w U q a v s) (hD : DiskA w S a size F) (hF : alook F nL.data.toList = none) : Calls Try.prog 38 #[.pointer (some ⟨q, 0, none⟩)] w fun e w' => e = .returned (.int .i64 0) ∧ Below w.heap.size w w' := by
  have c7 := hM.c.c7
  have H24 : Hid (∀ W, Below w.heap.size w W → Calls Try.prog 24 #[.pointer (some ⟨q, 0, none⟩)] W fun e w' => e = .returned (.pointer (some ⟨a, 0, none⟩)) ∧ W = w') := fun W hW => ldisk_any (hM.under hW)
  have H48 : Hid (∀ W, Below w.heap.size w W → Calls Try.prog 48 #[.pointer (some ⟨a, 0, none⟩), .string nL] W fun e w' => e = .returned (.tuple #[.string (strOf []), .int .i64 8]) ∧ Below w.heap.size w w' ∧ w'.cell? ⟨q, 7, none⟩ = some (.string ⟨#[114]⟩)) := fun W hW => by
    have h1 := readA (hD.under hW) nL (by decide)
    have e1 : abytes F nL.data.toList = [] := by unfold abytes; rw [hF]
    have e2 : synE F nL = 8 := by unfold synE; rw [hF]; rfl
    rw [e1, e2] at h1
    exact h1.mono fun e w' ⟨g1, g2⟩ => ⟨g1, hW.trans (g2.mono hW.size), (hM.under (hW.trans (g2.mono hW.size))).c.c7⟩
  have hn : (⟨#[114]⟩ ++ ⟨#[46, 108, 111, 103]⟩ : ByteArray) = nL := by decide
  clear hM hD hF
  go_enter Try.func38, Try.ntmps38
  go_wp2_with fail
  go_region_held3 (fun w' => w'.cell? ⟨q, 7, none⟩ = some (.string ⟨#[114]⟩)) (first | exact p3 | exact c7 | go_keep)
    (first
    | (go_at_call 24; refine (H24.out _ (by first | exact Below.refl _ _ | exact (Below.refl _ _).drew)).mono ?_; rintro e w2 ⟨rfl, rfl⟩)
    | (go_at_call 48; refine (H48.out _ (by first | exact Below.refl _ _ | exact (Below.refl _ _).drew)).mono ?_; rintro e w3 ⟨rfl, hb3, p3⟩)
    | fail)
  all_goals
    go_wp2_with fail
    go_ret
    exact ⟨rfl, by first | exact hb3 | exact hb3.drew⟩
theorem synL_fs (l s t : Option (List UInt8)) (n : ByteArray) (hn : n = nT ∨ n = nS ∨ n = nL) : synL (fsOf l s t) n = fsOf l s t := by
  rcases hn with rfl | rfl | rfl
  · unfold synL
    rw [look_T, bytes_T, put_T]
    cases t with
    | none => rfl
    | some b => rfl
  · unfold synL
    rw [look_S, bytes_S, put_S]
    cases s with
    | none => rfl
    | some b => rfl
  · unfold synL
    rw [look_L, bytes_L, put_L, some_fs none]
    cases l with
    | none => rfl
    | some b => rfl
theorem load_empty {w : World} {U S q a v s size} (hM : LogM w U q a v s) (hD : DiskA w S a size (fsOf none none none)) (hUS : ∀ k, S k → ¬ U k) :
    Calls Try.prog 21 #[.pointer (some ⟨q, 0, none⟩)] w fun e w' => e = .returned (.int .i64 0) ∧ AfterA S w w' a size (fsOf none none none) := by
  refine load_walk (a := a) (fun W => Below w.heap.size w W) (fun W => Below w.heap.size w W) (fun W => AfterA S w W a size (fsOf none none none)) ?_ ?_ ?_ ?_ ?_ ?_ ?_
  · exact loadTerm_none hM hD (look_T none none none)
  · exact fun W hW => (loadSnap_none (hM.under hW) (hD.under hW) (look_S none none none)).mono fun e w' ⟨e1, e2⟩ => ⟨e1, hW.trans (e2.mono hW.size)⟩
  · exact fun W hW => (loadLog_none (hM.under hW) (hD.under hW) (look_L none none none)).mono fun e w' ⟨e1, e2⟩ => ⟨e1, AfterA.same hD (hW.trans (e2.mono hW.size))⟩
  · intro W hA
    obtain ⟨S', g1, g2, g3, g4⟩ := hA.out
    exact ldisk_any (hM.beside g4 (fun k hU hS => hUS k hS hU))
  · intro W n hA hn
    obtain ⟨S', g1, g2, g3, g4⟩ := hA.out
    have h1 := syncA g1 n (by rcases hn with rfl | rfl | rfl <;> decide)
    rw [synL_fs none none none n hn] at h1
    exact h1.mono fun e w' ⟨e1, e2⟩ => ⟨⟨_, e1⟩, AfterA.step g2 g3 g4 e2⟩
  · intro W hA
    obtain ⟨S', g1, g2, g3, g4⟩ := hA.out
    exact (hM.beside g4 (fun k hU hS => hUS k hS hU)).c.c7
  · intro W hA
    obtain ⟨S', g1, g2, g3, g4⟩ := hA.out
    exact ⟨S', g1.under (Below.refl _ _).drew, g2, g3, g4.trans (Keeps.of_below (S := S) (Below.refl _ _).drew) (fun x hx => .inl hx)⟩
set_option maxHeartbeats 800000 in
theorem open_empty {w : World} {S a size} (hD : DiskA w S a size []) :
    Calls Try.prog 7 #[.pointer (some ⟨a, 0, none⟩), .string ⟨#[114]⟩] w fun e w' => e = .returned (.tuple #[.pointer (some ⟨w.heap.size, 0, none⟩), .int .i64 0]) ∧ (∃ B, LD w' B w.heap.size a size s0 ∧ (∀ k, B k → S k ∨ w.heap.size ≤ k) ∧ (∀ k, S k → B k)) ∧ Keeps S w w' := by
  have hb := (Below.refl w.heap.size w).alloc (Nat.le_refl _) (.cells #[.int .i64 0, .int .i64 0, .int .i64 0, .int .i64 0, .string ⟨#[]⟩, .slice none 0 0, .pointer (some ⟨a, 0, none⟩), .string ⟨#[114]⟩] 42)
  have hM : LogM (w.alloc (.cells #[.int .i64 0, .int .i64 0, .int .i64 0, .int .i64 0, .string ⟨#[]⟩, .slice none 0 0, .pointer (some ⟨a, 0, none⟩), .string ⟨#[114]⟩] 42)) (fun k => k = w.heap.size) w.heap.size a (.slice none 0 0) s0 :=
    ⟨fun k hk => by subst hk; simp, rfl, heap_alloc_new w _, EL.nil _, (by intro k hk; cases hk)⟩
  have hUS : ∀ k, S k → ¬ (fun k => k = w.heap.size) k := fun k hS e => by have := hD.below k hS; simp only at e; omega
  have HL := hid (load_empty hM (hD.under hb) hUS)
  have HP : Hid (∀ w', AfterA S (w.alloc (.cells #[.int .i64 0, .int .i64 0, .int .i64 0, .int .i64 0, .string ⟨#[]⟩, .slice none 0 0, .pointer (some ⟨a, 0, none⟩), .string ⟨#[114]⟩] 42)) w' a size (fsOf none none none) → (∃ B, LD w' B w.heap.size a size s0 ∧ (∀ k, B k → S k ∨ w.heap.size ≤ k) ∧ (∀ k, S k → B k)) ∧ Keeps S w w') := fun w' hA => by
    obtain ⟨S', g1, g2, g3, g4⟩ := id hA
    have hA2 := AfterA.begun hb hA
    obtain ⟨S2, _, _, _, k4⟩ := hA2
    refine ⟨⟨fun k => k = w.heap.size ∨ S' k, ⟨fun k => k = w.heap.size, S', .slice none 0 0, hM.beside g4 (fun k hU hS => hUS k hS hU), g1, fun k hS e => ?_, fun k => Iff.rfl⟩, fun k hk => ?_, fun k hk => .inr (g3 k hk)⟩, k4⟩
    · rcases g2 k hS with h | h
      · exact hUS k h e
      · simp at h e; omega
    · rcases hk with hk | hk
      · exact .inr (by omega)
      · rcases g2 k hk with h | h
        · exact .inl h
        · simp at h; exact .inr (by omega)
  clear hM hb hD hUS
  go_enter Try.func7, Try.ntmps7
  go_wp2_with (go_at_call 21; refine HL.out.mono ?_; rintro e w1 ⟨rfl, hp⟩; have HQ := hid (HP.out _ hp); clear hp)
  go_ret2
  exact ⟨rfl, HQ.out⟩
end Go.Proofs.Ytbgmehanhilicaa

