/- load, on files as they may be; Open on an empty disk. -/
import Derived.Test.YtclldpecbocclaaGreatK21
import Derived.Test.YtclldpecbocclaaGreatK23
import Derived.Test.YtclldpecbocclaaGreatK24
namespace Go.Proofs.YtclldpecbocclaaGreat
open Go.RowKit Go.Maps
set_option maxRecDepth 100000
set_option linter.unusedSimpArgs false
set_option linter.unusedVariables false

theorem index73 (u0 u1 u2 : Value) (w : World) : (Instr.index 80 (.agg #[u0, u1, u2]) (.int .i64 0)).run Tryz.prog w = .ok u0 w ∧ (Instr.index 80 (.agg #[u0, u1, u2]) (.int .i64 1)).run Tryz.prog w = .ok u1 w ∧ (Instr.index 80 (.agg #[u0, u1, u2]) (.int .i64 2)).run Tryz.prog w = .ok u2 w := by
  refine ⟨?_, ?_, ?_⟩ <;> kernel_rfl
set_option maxHeartbeats 3200000 in
theorem load_walk {w : World} {q a : Nat} (M1 M2 M3 : World → Prop)
    (H36 : Hid (Calls Tryz.prog 40 #[.pointer (some ⟨q, 0, none⟩)] w fun e w' => e = .returned (.int .i64 0) ∧ Hid (M1 w')))
    (H37 : Hid (∀ W, Hid (M1 W) → Calls Tryz.prog 41 #[.pointer (some ⟨q, 0, none⟩)] W fun e w' => e = .returned (.int .i64 0) ∧ Hid (M2 w')))
    (H38 : Hid (∀ W, Hid (M2 W) → Calls Tryz.prog 42 #[.pointer (some ⟨q, 0, none⟩)] W fun e w' => e = .returned (.int .i64 0) ∧ Hid (M3 w')))
    (H24 : Hid (∀ W, Hid (M3 W) → Calls Tryz.prog 28 #[.pointer (some ⟨q, 0, none⟩)] W fun e w' => e = .returned (.pointer (some ⟨a, 0, none⟩)) ∧ W = w'))
    (H39 : Hid (∀ W n, Hid (M3 W) → n = nT ∨ n = nS ∨ n = nL → Calls Tryz.prog 43 #[.pointer (some ⟨a, 0, none⟩), .string n] W fun e w' => (∃ c : Int, e = .returned (.int .i64 c)) ∧ Hid (M3 w')))
    (HC : Hid (∀ W, Hid (M3 W) → W.cell? ⟨q, 7, none⟩ = some (.string ⟨#[114]⟩))) (HD : Hid (∀ W, Hid (M3 W) → Hid (M3 W.drew))) :
    Calls Tryz.prog 21 #[.pointer (some ⟨q, 0, none⟩)] w fun e w' => e = .returned (.int .i64 0) ∧ M3 w' := by
  have hnT : (⟨#[114]⟩ ++ ⟨#[46, 116, 101, 114, 109]⟩ : ByteArray) = nT := by decide
  have hnS : (⟨#[114]⟩ ++ ⟨#[46, 115, 110, 97, 112]⟩ : ByteArray) = nS := by decide
  have hnL : (⟨#[114]⟩ ++ ⟨#[46, 108, 111, 103]⟩ : ByteArray) = nL := by decide
  go_enter Tryz.func21, Tryz.ntmps21
  go_wp2_with (first | (go_at_call 40; refine H36.out.mono ?_; rintro e w1 ⟨rfl, HM1⟩) | (go_at_call 41; refine (H37.out _ HM1).mono ?_; rintro e w2 ⟨rfl, HM2⟩) | (go_at_call 42; refine (H38.out _ HM2).mono ?_; rintro e w3 ⟨rfl, HM3⟩))
  go_loopg [24] 3 (fun kx s24 wr => ∃ k : Nat, k ≤ 3 ∧ 3 - k ≤ kx ∧ s24 = .int .i64 (k : Int) ∧ Hid (M3 wr))
  case atStart => exact ⟨0, by omega, by omega, rfl, HM3⟩
  case round =>
    obtain ⟨k, hk, hkx, rfl, HM⟩ := hrel
    clear HM3
    have hk4 : k = 0 ∨ k = 1 ∨ k = 2 ∨ k = 3 := by omega
    have c7 := HC.out _ HM
    have x0 := fun u0 u1 u2 W => (index73 u0 u1 u2 W).1
    have x1 := fun u0 u1 u2 W => (index73 u0 u1 u2 W).2.1
    have x2 := fun u0 u1 u2 W => (index73 u0 u1 u2 W).2.2
    rcases hk4 with rfl | rfl | rfl | rfl
    · go_wp2_with fail
      go_region_held3 (fun w' => w'.cell? ⟨q, 7, none⟩ = some (.string ⟨#[114]⟩)) (first | exact p5 | exact c7 | go_keep)
        (first
        | (go_at_call 28; refine (H24.out _ (by first | exact HM | exact HD.out _ HM)).mono ?_; rintro e w4 ⟨rfl, rfl⟩)
        | (go_at_call 43; refine (H39.out _ _ (by first | exact HM | exact HD.out _ HM) (by simp)).mono ?_; rintro e w5 ⟨⟨c, rfl⟩, HM5⟩; have p5 := HC.out _ HM5)
        | fail)
      all_goals
        go_wp2_with fail
        go_roundg (2)
        case measure => omega
        case rel => exact ⟨1, by omega, by omega, by first | rfl | go_num, HM5⟩
    · go_wp2_with fail
      go_region_held3 (fun w' => w'.cell? ⟨q, 7, none⟩ = some (.string ⟨#[114]⟩)) (first | exact p5 | exact c7 | go_keep)
        (first
        | (go_at_call 28; refine (H24.out _ (by first | exact HM | exact HD.out _ HM)).mono ?_; rintro e w4 ⟨rfl, rfl⟩)
        | (go_at_call 43; refine (H39.out _ _ (by first | exact HM | exact HD.out _ HM) (by simp)).mono ?_; rintro e w5 ⟨⟨c, rfl⟩, HM5⟩; have p5 := HC.out _ HM5)
        | fail)
      all_goals
        go_wp2_with fail
        go_roundg (1)
        case measure => omega
        case rel => exact ⟨2, by omega, by omega, by first | rfl | go_num, HM5⟩
    · go_wp2_with fail
      go_region_held3 (fun w' => w'.cell? ⟨q, 7, none⟩ = some (.string ⟨#[114]⟩)) (first | exact p5 | exact c7 | go_keep)
        (first
        | (go_at_call 28; refine (H24.out _ (by first | exact HM | exact HD.out _ HM)).mono ?_; rintro e w4 ⟨rfl, rfl⟩)
        | (go_at_call 43; refine (H39.out _ _ (by first | exact HM | exact HD.out _ HM) (by simp)).mono ?_; rintro e w5 ⟨⟨c, rfl⟩, HM5⟩; have p5 := HC.out _ HM5)
        | fail)
      all_goals
        go_wp2_with fail
        go_roundg (0)
        case measure => omega
        case rel => exact ⟨3, by omega, by omega, by first | rfl | go_num, HM5⟩
    · go_wp2_with fail
      go_ret
      exact ⟨rfl, HM.out⟩
set_option maxHeartbeats 1600000 in
theorem loadTerm_none {w : World} {U S q a v s size F} (hM : LogM w U q a v s) (hD : DiskA w S a size F) (hF : alook F nT.data.toList = none) : Calls Tryz.prog 40 #[.pointer (some ⟨q, 0, none⟩)] w fun e w' => e = .returned (.int .i64 0) ∧ Below w.heap.size w w' := by
  have c7 := hM.c.c7
  have H24 : Hid (∀ W, Below w.heap.size w W → Calls Tryz.prog 28 #[.pointer (some ⟨q, 0, none⟩)] W fun e w' => e = .returned (.pointer (some ⟨a, 0, none⟩)) ∧ W = w') := fun W hW => ldisk_any (hM.under hW)
  have H48 : Hid (∀ W, Below w.heap.size w W → Calls Tryz.prog 55 #[.pointer (some ⟨a, 0, none⟩), .string nT] W fun e w' => e = .returned (.tuple #[.string (strOf []), .int .i64 8]) ∧ Below w.heap.size w w' ∧ w'.cell? ⟨q, 7, none⟩ = some (.string ⟨#[114]⟩)) := fun W hW => by
    have h1 := readA (hD.under hW) nT (by decide)
    have e1 : abytes F nT.data.toList = [] := by unfold abytes; rw [hF]
    have e2 : synE F nT = 8 := by unfold synE; rw [hF]; rfl
    rw [e1, e2] at h1
    exact h1.mono fun e w' ⟨g1, g2⟩ => ⟨g1, hW.trans (g2.mono hW.size), (hM.under (hW.trans (g2.mono hW.size))).c.c7⟩
  have hn : (⟨#[114]⟩ ++ ⟨#[46, 116, 101, 114, 109]⟩ : ByteArray) = nT := by decide
  clear hM hD hF
  go_enter Tryz.func40, Tryz.ntmps40
  go_wp2_with fail
  go_region_held3 (fun w' => w'.cell? ⟨q, 7, none⟩ = some (.string ⟨#[114]⟩)) (first | exact p3 | exact c7 | go_keep)
    (first
    | (go_at_call 28; refine (H24.out _ (by first | exact Below.refl _ _ | exact (Below.refl _ _).drew)).mono ?_; rintro e w2 ⟨rfl, rfl⟩)
    | (go_at_call 55; refine (H48.out _ (by first | exact Below.refl _ _ | exact (Below.refl _ _).drew)).mono ?_; rintro e w3 ⟨rfl, hb3, p3⟩)
    | fail)
  all_goals
    go_wp2_with fail
    go_ret
    exact ⟨rfl, by first | exact hb3 | exact hb3.drew⟩
set_option maxHeartbeats 1600000 in
theorem loadSnap_none {w : World} {U S q a v s size F} (hM : LogM w U q a v s) (hD : DiskA w S a size F) (hF : alook F nS.data.toList = none) : Calls Tryz.prog 41 #[.pointer (some ⟨q, 0, none⟩)] w fun e w' => e = .returned (.int .i64 0) ∧ Below w.heap.size w w' := by
  have c7 := hM.c.c7
  have H24 : Hid (∀ W, Below w.heap.size w W → Calls Tryz.prog 28 #[.pointer (some ⟨q, 0, none⟩)] W fun e w' => e = .returned (.pointer (some ⟨a, 0, none⟩)) ∧ W = w') := fun W hW => ldisk_any (hM.under hW)
  have H48 : Hid (∀ W, Below w.heap.size w W → Calls Tryz.prog 55 #[.pointer (some ⟨a, 0, none⟩), .string nS] W fun e w' => e = .returned (.tuple #[.string (strOf []), .int .i64 8]) ∧ Below w.heap.size w w' ∧ w'.cell? ⟨q, 7, none⟩ = some (.string ⟨#[114]⟩)) := fun W hW => by
    have h1 := readA (hD.under hW) nS (by decide)
    have e1 : abytes F nS.data.toList = [] := by unfold abytes; rw [hF]
    have e2 : synE F nS = 8 := by unfold synE; rw [hF]; rfl
    rw [e1, e2] at h1
    exact h1.mono fun e w' ⟨g1, g2⟩ => ⟨g1, hW.trans (g2.mono hW.size), (hM.under (hW.trans (g2.mono hW.size))).c.c7⟩
  have hn : (⟨#[114]⟩ ++ ⟨#[46, 115, 110, 97, 112]⟩ : ByteArray) = nS := by decide
  clear hM hD hF
  go_enter Tryz.func41, Tryz.ntmps41
  go_wp2_with fail
  go_region_held3 (fun w' => w'.cell? ⟨q, 7, none⟩ = some (.string ⟨#[114]⟩)) (first | exact p3 | exact c7 | go_keep)
    (first
    | (go_at_call 28; refine (H24.out _ (by first | exact Below.refl _ _ | exact (Below.refl _ _).drew)).mono ?_; rintro e w2 ⟨rfl, rfl⟩)
    | (go_at_call 55; refine (H48.out _ (by first | exact Below.refl _ _ | exact (Below.refl _ _).drew)).mono ?_; rintro e w3 ⟨rfl, hb3, p3⟩)
    | fail)
  all_goals
    go_wp2_with fail
    go_ret
    exact ⟨rfl, by first | exact hb3 | exact hb3.drew⟩
set_option maxHeartbeats 1600000 in
theorem loadLog_none {w : World} {U S q a v s size F} (hM : LogM w U q a v s) (hD : DiskA w S a size F) (hF : alook F nL.data.toList = none) : Calls Tryz.prog 42 #[.pointer (some ⟨q, 0, none⟩)] w fun e w' => e = .returned (.int .i64 0) ∧ Below w.heap.size w w' := by
  have c7 := hM.c.c7
  have H24 : Hid (∀ W, Below w.heap.size w W → Calls Tryz.prog 28 #[.pointer (some ⟨q, 0, none⟩)] W fun e w' => e = .returned (.pointer (some ⟨a, 0, none⟩)) ∧ W = w') := fun W hW => ldisk_any (hM.under hW)
  have H48 : Hid (∀ W, Below w.heap.size w W → Calls Tryz.prog 55 #[.pointer (some ⟨a, 0, none⟩), .string nL] W fun e w' => e = .returned (.tuple #[.string (strOf []), .int .i64 8]) ∧ Below w.heap.size w w' ∧ w'.cell? ⟨q, 7, none⟩ = some (.string ⟨#[114]⟩)) := fun W hW => by
    have h1 := readA (hD.under hW) nL (by decide)
    have e1 : abytes F nL.data.toList = [] := by unfold abytes; rw [hF]
    have e2 : synE F nL = 8 := by unfold synE; rw [hF]; rfl
    rw [e1, e2] at h1
    exact h1.mono fun e w' ⟨g1, g2⟩ => ⟨g1, hW.trans (g2.mono hW.size), (hM.under (hW.trans (g2.mono hW.size))).c.c7⟩
  have hn : (⟨#[114]⟩ ++ ⟨#[46, 108, 111, 103]⟩ : ByteArray) = nL := by decide
  clear hM hD hF
  go_enter Tryz.func42, Tryz.ntmps42
  go_wp2_with fail
  go_region_held3 (fun w' => w'.cell? ⟨q, 7, none⟩ = some (.string ⟨#[114]⟩)) (first | exact p3 | exact c7 | go_keep)
    (first
    | (go_at_call 28; refine (H24.out _ (by first | exact Below.refl _ _ | exact (Below.refl _ _).drew)).mono ?_; rintro e w2 ⟨rfl, rfl⟩)
    | (go_at_call 55; refine (H48.out _ (by first | exact Below.refl _ _ | exact (Below.refl _ _).drew)).mono ?_; rintro e w3 ⟨rfl, hb3, p3⟩)
    | fail)
  all_goals
    go_wp2_with fail
    go_ret
    exact ⟨rfl, by first | exact hb3 | exact hb3.drew⟩
theorem synL_fs (l s t : Option (List UInt8)) (n : ByteArray) (hn : n = nT ∨ n = nS ∨ n = nL) : synL (fsOf l s t) n = fsOf l s t := by
  rcases hn with rfl | rfl | rfl
  · unfold synL
    rw [look_T, bytes_T, put_T]
    cases t with
    | none => rfl
    | some b => rfl
  · unfold synL
    rw [look_S, bytes_S, put_S]
    cases s with
    | none => rfl
    | some b => rfl
  · unfold synL
    rw [look_L, bytes_L, put_L, some_fs none]
    cases l with
    | none => rfl
    | some b => rfl
theorem load_empty {w : World} {U S q a v s size} (hM : LogM w U q a v s) (hD : DiskA w S a size (fsOf none none none)) (hUS : ∀ k, S k → ¬ U k) :
    Calls Tryz.prog 21 #[.pointer (some ⟨q, 0, none⟩)] w fun e w' => e = .returned (.int .i64 0) ∧ AfterA S w w' a size (fsOf none none none) := by
  refine load_walk (a := a) (fun W => Below w.heap.size w W) (fun W => Below w.heap.size w W) (fun W => AfterA S w W a size (fsOf none none none)) ?_ ?_ ?_ ?_ ?_ ?_ ?_
  · exact loadTerm_none hM hD (look_T none none none)
  · exact fun W hW => (loadSnap_none (hM.under hW) (hD.under hW) (look_S none none none)).mono fun e w' ⟨e1, e2⟩ => ⟨e1, hW.trans (e2.mono hW.size)⟩
  · exact fun W hW => (loadLog_none (hM.under hW) (hD.under hW) (look_L none none none)).mono fun e w' ⟨e1, e2⟩ => ⟨e1, AfterA.same hD (hW.trans (e2.mono hW.size))⟩
  · intro W hA
    obtain ⟨S', g1, g2, g3, g4⟩ := hA.out
    exact ldisk_any (hM.beside g4 (fun k hU hS => hUS k hS hU))
  · intro W n hA hn
    obtain ⟨S', g1, g2, g3, g4⟩ := hA.out
    have h1 := syncA g1 n (by rcases hn with rfl | rfl | rfl <;> decide)
    rw [synL_fs none none none n hn] at h1
    exact h1.mono fun e w' ⟨e1, e2⟩ => ⟨⟨_, e1⟩, AfterA.step g2 g3 g4 e2⟩
  · intro W hA
    obtain ⟨S', g1, g2, g3, g4⟩ := hA.out
    exact (hM.beside g4 (fun k hU hS => hUS k hS hU)).c.c7
  · intro W hA
    obtain ⟨S', g1, g2, g3, g4⟩ := hA.out
    exact ⟨S', g1.under (Below.refl _ _).drew, g2, g3, g4.trans (Keeps.of_below (S := S) (Below.refl _ _).drew) (fun x hx => .inl hx)⟩
set_option maxHeartbeats 800000 in
theorem open_empty {w : World} {S a size} (hD : DiskA w S a size []) :
    Calls Tryz.prog 6 #[.pointer (some ⟨a, 0, none⟩), .string ⟨#[114]⟩] w fun e w' => e = .returned (.tuple #[.pointer (some ⟨w.heap.size, 0, none⟩), .int .i64 0]) ∧ (∃ B, LD w' B w.heap.size a size s0 ∧ (∀ k, B k → S k ∨ w.heap.size ≤ k) ∧ (∀ k, S k → B k)) ∧ Keeps S w w' := by
  have hb := (Below.refl w.heap.size w).alloc (Nat.le_refl _) (.cells #[.int .i64 0, .int .i64 0, .int .i64 0, .int .i64 0, .string ⟨#[]⟩, .slice none 0 0, .pointer (some ⟨a, 0, none⟩), .string ⟨#[114]⟩] 41)
  have hM : LogM (w.alloc (.cells #[.int .i64 0, .int .i64 0, .int .i64 0, .int .i64 0, .string ⟨#[]⟩, .slice none 0 0, .pointer (some ⟨a, 0, none⟩), .string ⟨#[114]⟩] 41)) (fun k => k = w.heap.size) w.heap.size a (.slice none 0 0) s0 :=
    ⟨fun k hk => by subst hk; simp, rfl, heap_alloc_new w _, EL.nil _, (by intro k hk; cases hk)⟩
  have hUS : ∀ k, S k → ¬ (fun k => k = w.heap.size) k := fun k hS e => by have := hD.below k hS; simp only at e; omega
  have HL := hid (load_empty hM (hD.under hb) hUS)
  have HP : Hid (∀ w', AfterA S (w.alloc (.cells #[.int .i64 0, .int .i64 0, .int .i64 0, .int .i64 0, .string ⟨#[]⟩, .slice none 0 0, .pointer (some ⟨a, 0, none⟩), .string ⟨#[114]⟩] 41)) w' a size (fsOf none none none) → (∃ B, LD w' B w.heap.size a size s0 ∧ (∀ k, B k → S k ∨ w.heap.size ≤ k) ∧ (∀ k, S k → B k)) ∧ Keeps S w w') := fun w' hA => by
    obtain ⟨S', g1, g2, g3, g4⟩ := id hA
    have hA2 := AfterA.begun hb hA
    obtain ⟨S2, _, _, _, k4⟩ := hA2
    refine ⟨⟨fun k => k = w.heap.size ∨ S' k, ⟨fun k => k = w.heap.size, S', .slice none 0 0, hM.beside g4 (fun k hU hS => hUS k hS hU), g1, fun k hS e => ?_, fun k => Iff.rfl⟩, fun k hk => ?_, fun k hk => .inr (g3 k hk)⟩, k4⟩
    · rcases g2 k hS with h | h
      · exact hUS k h e
      · simp at h e; omega
    · rcases hk with hk | hk
      · exact .inr (by omega)
      · rcases g2 k hk with h | h
        · exact .inl h
        · simp at h; exact .inr (by omega)
  clear hM hb hD hUS
  go_enter Tryz.func6, Tryz.ntmps6
  go_wp2_with (go_at_call 21; refine HL.out.mono ?_; rintro e w1 ⟨rfl, hp⟩; have HQ := hid (HP.out _ hp); clear hp)
  go_ret2
  exact ⟨rfl, HQ.out⟩
end Go.Proofs.YtclldpecbocclaaGreat

