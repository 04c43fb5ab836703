/- load, on files as they may be; Open on an empty disk. -/
import Derived.Test.YtbgmehanhilicaaK21
import Derived.Test.YtbgmehanhilicaaK22
namespace Go.Proofs.Ytbgmehanhilicaa
open Go.RowKit Go.Maps
set_option maxRecDepth 100000
set_option linter.unusedSimpArgs false
set_option linter.unusedVariables false

theorem index73 (u0 u1 u2 : Value) (w : World) : (Instr.index 73 (.agg #[u0, u1, u2]) (.int .i64 0)).run Try.prog w = .ok u0 w ∧ (Instr.index 73 (.agg #[u0, u1, u2]) (.int .i64 1)).run Try.prog w = .ok u1 w ∧ (Instr.index 73 (.agg #[u0, u1, u2]) (.int .i64 2)).run Try.prog w = .ok u2 w := by
  refine ⟨?_, ?_, ?_⟩ <;> kernel_rfl
set_option maxHeartbeats 3200000 in
theorem load_walk {w : World} {q a : Nat} (M1 M2 M3 : World → Prop)
    (H36 : Hid (Calls Try.prog 36 #[.pointer (some ⟨q, 0, none⟩)] w fun e w' => e = .returned (.int .i64 0) ∧ Hid (M1 w')))
    (H37 : Hid (∀ W, Hid (M1 W) → Calls Try.prog 37 #[.pointer (some ⟨q, 0, none⟩)] W fun e w' => e = .returned (.int .i64 0) ∧ Hid (M2 w')))
    (H38 : Hid (∀ W, Hid (M2 W) → Calls Try.prog 38 #[.pointer (some ⟨q, 0, none⟩)] W fun e w' => e = .returned (.int .i64 0) ∧ Hid (M3 w')))
    (H24 : Hid (∀ W, Hid (M3 W) → Calls Try.prog 24 #[.pointer (some ⟨q, 0, none⟩)] W fun e w' => e = .returned (.pointer (some ⟨a, 0, none⟩)) ∧ W = w'))
    (H39 : Hid (∀ W n, Hid (M3 W) → n = nT ∨ n = nS ∨ n = nL → Calls Try.prog 39 #[.pointer (some ⟨a, 0, none⟩), .string n] W fun e w' => (∃ c : Int, e = .returned (.int .i64 c)) ∧ Hid (M3 w')))
    (HC : Hid (∀ W, Hid (M3 W) → W.cell? ⟨q, 7, none⟩ = some (.string ⟨#[114]⟩))) (HD : Hid (∀ W, Hid (M3 W) → Hid (M3 W.drew))) :
    Calls Try.prog 21 #[.pointer (some ⟨q, 0, none⟩)] w fun e w' => e = .returned (.int .i64 0) ∧ M3 w' := by
  have hnT : (⟨#[114]⟩ ++ ⟨#[46, 116, 101, 114, 109]⟩ : ByteArray) = nT := by decide
  have hnS : (⟨#[114]⟩ ++ ⟨#[46, 115, 110, 97, 112]⟩ : ByteArray) = nS := by decide
  have hnL : (⟨#[114]⟩ ++ ⟨#[46, 108, 111, 103]⟩ : ByteArray) = nL := by decide
  go_enter Try.func21, Try.ntmps21
  go_wp2_with (first | (go_at_call 36; refine H36.out.mono ?_; rintro e w1 ⟨rfl, HM1⟩) | (go_at_call 37; refine (H37.out _ HM1).mono ?_; rintro e w2 ⟨rfl, HM2⟩) | (go_at_call 38; refine (H38.out _ HM2).mono ?_; rintro e w3 ⟨rfl, HM3⟩))
  go_loopg [24] 3 (fun kx s24 wr => ∃ k : Nat, k ≤ 3 ∧ 3 - k ≤ kx ∧ s24 = .int .i64 (k : Int) ∧ Hid (M3 wr))
  case atStart => exact ⟨0, by omega, by omega, rfl, HM3⟩
  case round =>
    obtain ⟨k, hk, hkx, rfl, HM⟩ := hrel
    clear HM3
    have hk4 : k = 0 ∨ k = 1 ∨ k = 2 ∨ k = 3 := by omega
    have c7 := HC.out _ HM
    have x0 := fun u0 u1 u2 W => (index73 u0 u1 u2 W).1
    have x1 := fun u0 u1 u2 W => (index73 u0 u1 u2 W).2.1
    have x2 := fun u0 u1 u2 W => (index73 u0 u1 u2 W).2.2
    rcases hk4 with rfl | rfl | rfl | rfl
    · go_wp2_with fail
      go_region_held3 (fun w' => w'.cell? ⟨q, 7, none⟩ = some (.string ⟨#[114]⟩)) (first | exact p5 | exact c7 | go_keep)
        (first
        | (go_at_call 24; refine (H24.out _ (by first | exact HM | exact HD.out _ HM)).mono ?_; rintro e w4 ⟨rfl, rfl⟩)
        | (go_at_call 39; refine (H39.out _ _ (by first | exact HM | exact HD.out _ HM) (by simp)).mono ?_; rintro e w5 ⟨⟨c, rfl⟩, HM5⟩; have p5 := HC.out _ HM5)
        | fail)
      all_goals
        go_wp2_with fail
        go_roundg (2)
        case measure => omega
        case rel => exact ⟨1, by omega, by omega, by first | rfl | go_num, HM5⟩
    · go_wp2_with fail
      go_region_held3 (fun w' => w'.cell? ⟨q, 7, none⟩ = some (.string ⟨#[114]⟩)) (first | exact p5 | exact c7 | go_keep)
        (first
        | (go_at_call 24; refine (H24.out _ (by first | exact HM | exact HD.out _ HM)).mono ?_; rintro e w4 ⟨rfl, rfl⟩)
        | (go_at_call 39; refine (H39.out _ _ (by first | exact HM | exact HD.out _ HM) (by simp)).mono ?_; rintro e w5 ⟨⟨c, rfl⟩, HM5⟩; have p5 := HC.out _ HM5)
        | fail)
      all_goals
        go_wp2_with fail
        go_roundg (1)
        case measure => omega
        case rel => exact ⟨2, by omega, by omega, by first | rfl | go_num, HM5⟩
    · go_wp2_with fail
      go_region_held3 (fun w' => w'.cell? ⟨q, 7, none⟩ = some (.string ⟨#[114]⟩)) (first | exact p5 | exact c7 | go_keep)
        (first
        | (go_at_call 24; refine (H24.out _ (by first | exact HM | exact HD.out _ HM)).mono ?_; rintro e w4 ⟨rfl, rfl⟩)
        | (go_at_call 39; refine (H39.out _ _ (by first | exact HM | exact HD.out _ HM) (by simp)).mono ?_; rintro e w5 ⟨⟨c, rfl⟩, HM5⟩; have p5 := HC.out _ HM5)
        | fail)
      all_goals
        go_wp2_with fail
        go_roundg (0)
        case measure => omega
        case rel => exact ⟨3, by omega, by omega, by first | rfl | go_num, HM5⟩
    · go_wp2_with fail
      go_ret
      exact ⟨rfl, HM.out⟩
set_option maxHeartbeats 1600000 in
theorem loadTerm_none {w : World} {U S q a v s size F} (hM : LogM w U q a v s) (hD : DiskA w S a size F) (hF : alook F nT.data.toList = none) : Calls Try.prog 36 #[.pointer (some ⟨q, 0, none⟩)] w fun e w' => e = .returned (.int .i64 0) ∧ Below w.heap.size w w' := by
  have c7 := hM.c.c7
  have H24 : Hid (∀ W, Below w.heap.size w W → Calls Try.prog 24 #[.pointer (some ⟨q, 0, none⟩)] W fun e w' => e = .returned (.pointer (some ⟨a, 0, none⟩)) ∧ W = w') := fun W hW => ldisk_any (hM.under hW)
  have H48 : Hid (∀ W, Below w.heap.size w W → Calls Try.prog 48 #[.pointer (some ⟨a, 0, none⟩), .string nT] W fun e w' => e = .returned (.tuple #[.string (strOf []), .int .i64 8]) ∧ Below w.heap.size w w' ∧ w'.cell? ⟨q, 7, none⟩ = some (.string ⟨#[114]⟩)) := fun W hW => by
    have h1 := readA (hD.under hW) nT (by decide)
    have e1 : abytes F nT.data.toList = [] := by unfold abytes; rw [hF]
    have e2 : synE F nT = 8 := by unfold synE; rw [hF]; rfl
    rw [e1, e2] at h1
    exact h1.mono fun e w' ⟨g1, g2⟩ => ⟨g1, hW.trans (g2.mono hW.size), (hM.under (hW.trans (g2.mono hW.size))).c.c7⟩
  have hn : (⟨#[114]⟩ ++ ⟨#[46, 116, 101, 114, 109]⟩ : ByteArray) = nT := by decide
  clear hM hD hF
  go_enter Try.func36, Try.ntmps36
  go_wp2_with fail
  go_region_held3 (fun w' => w'.cell? ⟨q, 7, none⟩ = some (.string ⟨#[114]⟩)) (first | exact p3 | exact c7 | go_keep)
    (first
    | (go_at_call 24; refine (H24.out _ (by first | exact Below.refl _ _ | exact (Below.refl _ _).drew)).mono ?_; rintro e w2 ⟨rfl, rfl⟩)
    | (go_at_call 48; refine (H48.out _ (by first | exact Below.refl _ _ | exact (Below.refl _ _).drew)).mono ?_; rintro e w3 ⟨rfl, hb3, p3⟩)
    | fail)
  all_goals
    go_wp2_with fail
    go_ret
    exact ⟨rfl, by first | exact hb3 | exact hb3.drew⟩
set_option maxHeartbeats 1600000 in
theorem loadSnap_none {w : World} {U S q a v s size F} (hM : LogM w U q a v s) (hD : DiskA w S a size F) (hF : alook F nS.data.toList = none) : Calls Try.prog 37 #[.pointer (some ⟨q, 0, none⟩)] w fun e w' => e = .returned (.int .i64 0) ∧ Below w.heap.size w w' := by
  have c7 := hM.c.c7
  have H24 : Hid (∀ W, Below w.heap.size w W → Calls Try.prog 24 #[.pointer (some ⟨q, 0, none⟩)] W fun e w' => e = .returned (.pointer (some ⟨a, 0, none⟩)) ∧ W = w') := fun W hW => ldisk_any (hM.under hW)
  have H48 : Hid (∀ W, Below w.heap.size w W → Calls Try.prog 48 #[.pointer (some ⟨a, 0, none⟩), .string nS] W fun e w' => e = .returned (.tuple #[.string (strOf []), .int .i64 8]) ∧ Below w.heap.size w w' ∧ w'.cell? ⟨q, 7, none⟩ = some (.string ⟨#[114]⟩)) := fun W hW => by
    have h1 := readA (hD.under hW) nS (by decide)
    have e1 : abytes F nS.data.toList = [] := by unfold abytes; rw [hF]
    have e2 : synE F nS = 8 := by unfold synE; rw [hF]; rfl
    rw [e1, e2] at h1
    exact h1.mono fun e w' ⟨g1, g2⟩ => ⟨g1, hW.trans (g2.mono hW.size), (hM.under (hW.trans (g2.mono hW.size))).c.c7⟩
  have hn : (⟨#[114]⟩ ++ ⟨#[46, 115, 110, 97, 112]⟩ : ByteArray) = nS := by decide
  clear hM hD hF
  go_enter Try.func37, Try.ntmps37
  go_wp2_with fail
  go_region_held3 (fun w' => w'.cell? ⟨q, 7, none⟩ = some (.string ⟨#[114]⟩)) (first | exact p3 | exact c7 | go_keep)
    (first
    | (go_at_call 24; refine (H24.out _ (by first | exact Below.refl _ _ | exact (Below.refl _ _).drew)).mono ?_; rintro e w2 ⟨rfl, rfl⟩)
    | (go_at_call 48; refine (H48.out _ (by first | exact Below.refl _ _ | exact (Below.refl _ _).drew)).mono ?_; rintro e w3 ⟨rfl, hb3, p3⟩)
    | fail)
  all_goals
    go_wp2_with fail
    go_ret
    exact ⟨rfl, by first | exact hb3 | exact hb3.drew⟩
set_option maxHeartbeats 1600000 in
theorem loadLog_none {w : World} {U S q a v s size F} (hM : LogM w U q a v s) (hD : DiskA w S a size F) (hF : alook F nL.data.toList = none) : Calls Try.prog 38 #[.pointer (some ⟨q, 0, none⟩)] w fun e w' => e = .returned (.int .i64 0) ∧ Below w.heap.size w w' := by
  have c7 := hM.c.c7
  have H24 : Hid (∀ W, Below w.heap.size w W → Calls Try.prog 24 #[.pointer (some ⟨q, 0, none⟩)] W fun e w' => e = .returned (.pointer (some ⟨a, 0, none⟩)) ∧ W = w') := fun W hW => ldisk_any (hM.under hW)
  have H48 : Hid (∀ W, Below w.heap.size w W → Calls Try.prog 48 #[.pointer (some ⟨a, 0, none⟩), .string nL] W fun e w' => e = .returned (.tuple #[.string (strOf []), .int .i64 8]) ∧ Below w.heap.size w w' ∧ w'.cell? ⟨q, 7, none⟩ = some (.string ⟨#[114]⟩)) := fun W hW => by
    have h1 := readA (hD.under hW) nL (by decide)
    have e1 : abytes F nL.data.toList = [] := by unfold abytes; rw [hF]
    have e2 : synE F nL = 8 := by unfold synE; rw [hF]; rfl
    rw [e1, e2] at h1
    exact h1.mono fun e w' ⟨g1, g2⟩ => ⟨g1, hW.trans (g2.mono hW.size), (hM.under (hW.trans (g2.mono hW.size))).c.c7⟩
  have hn : (⟨#[114]⟩ ++ ⟨#[46, 108, 111, 103]⟩ : ByteArray) = nL := by decide
  clear hM hD hF
  go_enter Try.func38, Try.ntmps38
  go_wp2_with fail
  go_region_held3 (fun w' => w'.cell? ⟨q, 7, none⟩ = some (.string ⟨#[114]⟩)) (first | exact p3 | exact c7 | go_keep)
    (first
    | (go_at_call 24; refine (H24.out _ (by first | exact Below.refl _ _ | exact (Below.refl _ _).drew)).mono ?_; rintro e w2 ⟨rfl, rfl⟩)
    | (go_at_call 48; refine (H48.out _ (by first | exact Below.refl _ _ | exact (Below.refl _ _).drew)).mono ?_; rintro e w3 ⟨rfl, hb3, p3⟩)
    | fail)
  all_goals
    go_wp2_with fail
    go_ret
    exact ⟨rfl, by first | exact hb3 | exact hb3.drew⟩
theorem synL_fs (l s t : Option (List UInt8)) (n : ByteArray) (hn : n = nT ∨ n = nS ∨ n = nL) : synL (fsOf l s t) n = fsOf l s t := by
  rcases hn with rfl | rfl | rfl
  · unfold synL
    rw [look_T, bytes_T, put_T]
    cases t with
    | none => rfl
    | some b => rfl
  · unfold synL
    rw [look_S, bytes_S, put_S]
    cases s with
    | none => rfl
    | some b => rfl
  · unfold synL
    rw [look_L, bytes_L, put_L, some_fs none]
    cases l with
    | none => rfl
    | some b => rfl
theorem load_empty {w : World} {U S q a v s size} (hM : LogM w U q a v s) (hD : DiskA w S a size (fsOf none none none)) (hUS : ∀ k, S k → ¬ U k) :
    Calls Try.prog 21 #[.pointer (some ⟨q, 0, none⟩)] w fun e w' => e = .returned (.int .i64 0) ∧ AfterA S w w' a size (fsOf none none none) := by
  refine load_walk (a := a) (fun W => Below w.heap.size w W) (fun W => Below w.heap.size w W) (fun W => AfterA S w W a size (fsOf none none none)) ?_ ?_ ?_ ?_ ?_ ?_ ?_
  · exact loadTerm_none hM hD (look_T none none none)
  · exact fun W hW => (loadSnap_none (hM.under hW) (hD.under hW) (look_S none none none)).mono fun e w' ⟨e1, e2⟩ => ⟨e1, hW.trans (e2.mono hW.size)⟩
  · exact fun W hW => (loadLog_none (hM.under hW) (hD.under hW) (look_L none none none)).mono fun e w' ⟨e1, e2⟩ => ⟨e1, AfterA.same hD (hW.trans (e2.mono hW.size))⟩
  · intro W hA
    obtain ⟨S', g1, g2, g3, g4⟩ := hA.out
    exact ldisk_any (hM.beside g4 (fun k hU hS => hUS k hS hU))
  · intro W n hA hn
    obtain ⟨S', g1, g2, g3, g4⟩ := hA.out
    have h1 := syncA g1 n (by rcases hn with rfl | rfl | rfl <;> decide)
    rw [synL_fs none none none n hn] at h1
    exact h1.mono fun e w' ⟨e1, e2⟩ => ⟨⟨_, e1⟩, AfterA.step g2 g3 g4 e2⟩
  · intro W hA
    obtain ⟨S', g1, g2, g3, g4⟩ := hA.out
    exact (hM.beside g4 (fun k hU hS => hUS k hS hU)).c.c7
  · intro W hA
    obtain ⟨S', g1, g2, g3, g4⟩ := hA.out
    exact ⟨S', g1.under (Below.refl _ _).drew, g2, g3, g4.trans (Keeps.of_below (S := S) (Below.refl _ _).drew) (fun x hx => .inl hx)⟩
set_option maxHeartbeats 800000 in
theorem open_empty {w : World} {S a size} (hD : DiskA w S a size []) :
    Calls Try.prog 7 #[.pointer (some ⟨a, 0, none⟩), .string ⟨#[114]⟩] w fun e w' => e = .returned (.tuple #[.pointer (some ⟨w.heap.size, 0, none⟩), .int .i64 0]) ∧ (∃ B, LD w' B w.heap.size a size s0 ∧ (∀ k, B k → S k ∨ w.heap.size ≤ k) ∧ (∀ k, S k → B k)) ∧ Keeps S w w' := by
  have hb := (Below.refl w.heap.size w).alloc (Nat.le_refl _) (.cells #[.int .i64 0, .int .i64 0, .int .i64 0, .int .i64 0, .string ⟨#[]⟩, .slice none 0 0, .pointer (some ⟨a, 0, none⟩), .string ⟨#[114]⟩] 42)
  have hM : LogM (w.alloc (.cells #[.int .i64 0, .int .i64 0, .int .i64 0, .int .i64 0, .string ⟨#[]⟩, .slice none 0 0, .pointer (some ⟨a, 0, none⟩), .string ⟨#[114]⟩] 42)) (fun k => k = w.heap.size) w.heap.size a (.slice none 0 0) s0 :=
    ⟨fun k hk => by subst hk; simp, rfl, heap_alloc_new w _, EL.nil _, (by intro k hk; cases hk)⟩
  have hUS : ∀ k, S k → ¬ (fun k => k = w.heap.size) k := fun k hS e => by have := hD.below k hS; simp only at e; omega
  have HL := hid (load_empty hM (hD.under hb) hUS)
  have HP : Hid (∀ w', AfterA S (w.alloc (.cells #[.int .i64 0, .int .i64 0, .int .i64 0, .int .i64 0, .string ⟨#[]⟩, .slice none 0 0, .pointer (some ⟨a, 0, none⟩), .string ⟨#[114]⟩] 42)) w' a size (fsOf none none none) → (∃ B, LD w' B w.heap.size a size s0 ∧ (∀ k, B k → S k ∨ w.heap.size ≤ k) ∧ (∀ k, S k → B k)) ∧ Keeps S w w') := fun w' hA => by
    obtain ⟨S', g1, g2, g3, g4⟩ := id hA
    have hA2 := AfterA.begun hb hA
    obtain ⟨S2, _, _, _, k4⟩ := hA2
    refine ⟨⟨fun k => k = w.heap.size ∨ S' k, ⟨fun k => k = w.heap.size, S', .slice none 0 0, hM.beside g4 (fun k hU hS => hUS k hS hU), g1, fun k hS e => ?_, fun k => Iff.rfl⟩, fun k hk => ?_, fun k hk => .inr (g3 k hk)⟩, k4⟩
    · rcases g2 k hS with h | h
      · exact hUS k h e
      · simp at h e; omega
    · rcases hk with hk | hk
      · exact .inr (by omega)
      · rcases g2 k hk with h | h
        · exact .inl h
        · simp at h; exact .inr (by omega)
  clear hM hb hD hUS
  go_enter Try.func7, Try.ntmps7
  go_wp2_with (go_at_call 21; refine HL.out.mono ?_; rintro e w1 ⟨rfl, hp⟩; have HQ := hid (HP.out _ hp); clear hp)
  go_ret2
  exact ⟨rfl, HQ.out⟩
end Go.Proofs.Ytbgmehanhilicaa

/- A log behind a world's end; pick, some. -/
namespace Go.Proofs.Ytbgmehanhilicaa
open Go.RowKit Go.Maps
set_option maxRecDepth 100000
set_option linter.unusedSimpArgs false
set_option linter.unusedVariables false

/-- A log behind a world's end, apart from blocks X of others. -/
def LF (w0 w : World) (X : Nat → Prop) (q a size : Nat) (s : LSt) : Prop :=
  ∃ B, LD w B q a size s ∧ LOk s ∧ (∀ k, B k → w0.heap.size ≤ k ∧ ¬ X k) ∧ Below w0.heap.size w0 w ∧ (∀ k, X k → k < w.heap.size)
/-- What a call leaves: the log, and blocks X as they were. -/
def LFA (w0 w w' : World) (X : Nat → Prop) (q a size : Nat) (s : LSt) : Prop := LF w0 w' X q a size s ∧ (∀ k, X k → w'.heap[k]? = w.heap[k]?) ∧ w.heap.size ≤ w'.heap.size
theorem LF.ok {w0 w : World} {X q a size s} (h : LF w0 w X q a size s) : LOk s := by obtain ⟨B, _, h, _⟩ := h; exact h
theorem LF.lb {w0 w : World} {X q a size s} (h : LF w0 w X q a size s) : LB s := by obtain ⟨B, h1, h2, _⟩ := h; exact h1.lb h2
theorem LF.below {w0 w : World} {X q a size s} (h : LF w0 w X q a size s) : Below w0.heap.size w0 w := by obtain ⟨B, _, _, _, h, _⟩ := h; exact h
theorem LF.under {w0 w w1 : World} {X q a size s} (h : LF w0 w X q a size s) (hb : Below w.heap.size w w1) : LF w0 w1 X q a size s := by
  obtain ⟨B, h1, h2, h3, h4, h5⟩ := h
  have hs := hb.size
  exact ⟨B, h1.under hb, h2, h3, h4.trans (hb.mono h4.size), fun k hk => by have := h5 k hk; omega⟩
/-- Other blocks beside it. -/
theorem LF.with {w0 w w1 : World} {X q a size s} (h : LF w0 w X q a size s) (hb : Below w.heap.size w w1) (Y : Nat → Prop) (hY : ∀ k, Y k → X k ∨ (w.heap.size ≤ k ∧ k < w1.heap.size)) : LF w0 w1 Y q a size s := by
  obtain ⟨B, h1, h2, h3, h4, h5⟩ := h
  have hs := hb.size
  refine ⟨B, h1.under hb, h2, fun k hk => ⟨(h3 k hk).1, fun hy => ?_⟩, h4.trans (hb.mono h4.size), fun k hk => ?_⟩
  · rcases hY k hy with h | h
    · exact (h3 k hk).2 h
    · have := h1.below k hk; omega
  · rcases hY k hk with h | h
    · have := h5 k h; omega
    · exact h.2
theorem LF.after {w0 w w' : World} {X B q a size s'} (h2 : LOk s') (h3 : ∀ k, B k → w0.heap.size ≤ k ∧ ¬ X k) (h4 : Below w0.heap.size w0 w) (h5 : ∀ k, X k → k < w.heap.size) (h : LDA B w w' q a size s') : LFA w0 w w' X q a size s' := by
  obtain ⟨B', g1, g2, g3, g4⟩ := h
  have hs := h4.size
  have hs4 := g4.size
  refine ⟨⟨B', g1, h2, fun k hk => ?_, h4.trans (g4.below hs (fun k hk => (h3 k hk).1)), fun k hk => by have := h5 k hk; omega⟩, fun k hk => g4.block k (h5 k hk) (fun hB => (h3 k hB).2 hk), hs4⟩
  rcases g2 k hk with h | h
  · exact h3 k h
  · exact ⟨by omega, fun hx => by have := h5 k hx; omega⟩
theorem turnE_ok {s : LSt} (hk : LOk s) (size : Nat) (term vote : Int) : LOk (turnE size s term vote).2 := by
  unfold turnE
  split
  · exact hk
  rename_i h1
  split
  · exact hk
  split
  · exact hk
  split
  · exact hk
  split
  · exact hk
  have b1 := (numB_iff term).1 (by cases hb : numB term; exact absurd (.inl hb) h1; rfl)
  have b2 := (numB_iff vote).1 (by cases hb : numB vote; exact absurd (.inr hb) h1; rfl)
  exact ⟨hk.idx, hk.rise, hk.rng, hk.srng, hk.hs, hk.hl, ⟨b1, b2⟩, (by intro h; cases h)⟩
theorem LF.turn {w0 w : World} {X q a size s} (h : LF w0 w X q a size s) (term vote : Int) : Calls Try.prog 17 #[.pointer (some ⟨q, 0, none⟩), .int .i64 term, .int .i64 vote] w fun e w' => e = .returned (.int .i64 ((turnE size s term vote).1 : Int)) ∧ LFA w0 w w' X q a size (turnE size s term vote).2 := by
  obtain ⟨B, h1, h2, h3, h4, h5⟩ := h
  exact (turn_any h1 h2 term vote).mono fun e w' ⟨e1, e2⟩ => ⟨e1, LF.after (turnE_ok h2 size term vote) h3 h4 h5 e2⟩
theorem LF.put {w0 w : World} {X q a size s} (h : LF w0 w X q a size s) {oa : Option Addr} {cap : Nat} {l : List Et} (hm : EAt w oa l) (hl : l.length ≤ 1000) (hc : l.length ≤ cap) (hcm : cap ≤ maxLen) (hX : 0 < l.length → ∀ ad, oa = some ad → X ad.block ∨ ad.block < w0.heap.size) (after : Int) :
    Calls Try.prog 11 #[.pointer (some ⟨q, 0, none⟩), .int .i64 after, .slice oa l.length cap] w fun e w' => e = .returned (.int .i64 ((putE (size - totalA s.fs) s after l).1 : Int)) ∧ LFA w0 w w' X q a size (putE (size - totalA s.fs) s after l).2 := by
  obtain ⟨B, h1, h2, h3, h4, h5⟩ := h
  refine (logput_any h1 h2 hm hl hc hcm (fun h0 ad had hB => ?_) after).mono fun e w' ⟨e1, e2⟩ => ⟨e1, LF.after (putE_ok h2 _ after l) h3 h4 h5 e2⟩
  rcases hX h0 ad had with h | h
  · exact (h3 _ hB).2 h
  · have := (h3 _ hB).1; omega
theorem LF.snap {w0 w : World} {X q a size s} (h : LF w0 w X q a size s) (index term : Int) (data : List UInt8) (hdl : data.length ≤ 9000000000000000000) : Calls Try.prog 10 #[.pointer (some ⟨q, 0, none⟩), .int .i64 index, .int .i64 term, .string (strOf data)] w fun e w' => e = .returned (.int .i64 ((snapE size s index term data).1 : Int)) ∧ LFA w0 w w' X q a size (snapE size s index term data).2 := by
  obtain ⟨B, h1, h2, h3, h4, h5⟩ := h
  exact (snap_any h1 h2 index term data hdl).mono fun e w' ⟨e1, e2⟩ => ⟨e1, LF.after (snapE_ok h2 size index term data) h3 h4 h5 e2⟩
theorem LF.m {w0 w : World} {X q a size s} (h : LF w0 w X q a size s) : ∃ U v, LogM w U q a v s := by
  obtain ⟨B, ⟨U, S, v, h1, _⟩, _⟩ := h
  exact ⟨U, v, h1⟩
theorem LF.last {w0 w : World} {X q a size s} (h : LF w0 w X q a size s) : Calls Try.prog 8 #[.pointer (some ⟨q, 0, none⟩)] w fun e w' => e = .returned (.tuple #[.int .i64 (lastE s).i, .int .i64 (lastE s).t]) ∧ Below w.heap.size w w' := by
  obtain ⟨U, v, hm⟩ := h.m
  exact last_any hm h.lb
theorem LF.at {w0 w : World} {X q a size s} (h : LF w0 w X q a size s) (idx : Int) : Calls Try.prog 15 #[.pointer (some ⟨q, 0, none⟩), .int .i64 idx] w fun e w' => e = .returned (.tuple #[evalue ((atE s idx).getD e0), .bool (atE s idx).isSome]) ∧ Below w.heap.size w w' := by
  obtain ⟨U, v, hm⟩ := h.m
  exact at_any hm h.lb idx
theorem LF.from {w0 w : World} {X q a size s} (h : LF w0 w X q a size s) (idx most : Int) : Calls Try.prog 13 #[.pointer (some ⟨q, 0, none⟩), .int .i64 idx, .int .i64 most] w fun e w' => ∃ v', e = .returned v' ∧ EL w' v' (fromE s idx most) ∧ (∀ k, v'.ownBlock = some k → w.heap.size ≤ k) ∧ Below w.heap.size w w' := by
  obtain ⟨U, v, hm⟩ := h.m
  exact from_any hm h.lb idx most
theorem LF.first {w0 w : World} {X q a size s} (h : LF w0 w X q a size s) : Calls Try.prog 14 #[.pointer (some ⟨q, 0, none⟩)] w fun e w' => e = .returned (.int .i64 (s.snap.i + 1)) ∧ w = w' := by
  obtain ⟨U, v, hm⟩ := h.m
  exact first_any hm h.lb
theorem LF.term {w0 w : World} {X q a size s} (h : LF w0 w X q a size s) : Calls Try.prog 18 #[.pointer (some ⟨q, 0, none⟩)] w fun e w' => e = .returned (.int .i64 s.term) ∧ w = w' := by
  obtain ⟨U, v, hm⟩ := h.m
  exact term_any hm
theorem LF.vote {w0 w : World} {X q a size s} (h : LF w0 w X q a size s) : Calls Try.prog 19 #[.pointer (some ⟨q, 0, none⟩)] w fun e w' => e = .returned (.int .i64 s.vote) ∧ w = w' := by
  obtain ⟨U, v, hm⟩ := h.m
  exact vote_any hm
theorem LF.snapshot {w0 w : World} {X q a size s} (h : LF w0 w X q a size s) : Calls Try.prog 12 #[.pointer (some ⟨q, 0, none⟩)] w fun e w' => e = .returned (.tuple #[.int .i64 s.snap.i, .int .i64 s.snap.t, .string (strOf s.snap.d)]) ∧ Below w.heap.size w w' := by
  obtain ⟨U, v, hm⟩ := h.m
  exact snapshot_any hm
theorem LF.new {w : World} {S a size} (hD : DiskA w S a size []) (w0 : World) (hb : Below w0.heap.size w0 w) (hS : ∀ k, S k → w0.heap.size ≤ k) :
    Calls Try.prog 7 #[.pointer (some ⟨a, 0, none⟩), .string ⟨#[114]⟩] w fun e w' => e = .returned (.tuple #[.pointer (some ⟨w.heap.size, 0, none⟩), .int .i64 0]) ∧ LF w0 w' (fun _ => False) w.heap.size a size s0 :=
  (open_empty hD).mono fun e w' ⟨e1, ⟨B, b1, b2, b3⟩, hk⟩ => by
    have hs := hb.size
    refine ⟨e1, B, b1, s0_ok, fun k hk2 => ⟨?_, fun h => h⟩, hb.trans (hk.below hs hS), fun k h => h.elim⟩
    rcases b2 k hk2 with h | h
    · exact hS k h
    · omega
set_option maxHeartbeats 400000 in
theorem pick_any (c n : Int) (w : World) (h1 : -9223372036854775808 ≤ c) (h2 : c ≤ 9223372036854775807) (hn : 1 ≤ n) (hn2 : n ≤ 3000000000) :
    Calls Try.prog 9 #[.int .i64 c, .int .i64 n] w fun e w' => e = .returned (.int .i64 (pickI c n)) ∧ w = w' := by
  by_cases hc : c < 0
  · go_enter Try.func9, Try.ntmps9
    go_wp2
    go_ret
    have e1 : -(c + 1).tmod n = (-(c + 1)).tmod n := (neg_tmod c n).symm
    have e2 : (-(c + 1)).tmod n = (-(c + 1)) % n := Int.tmod_eq_emod_of_nonneg (by omega)
    refine ⟨ret_int ?_, rfl⟩
    unfold pickI
    rw [if_pos hc, e1, e2]
  · go_enter Try.func9, Try.ntmps9
    go_wp2
    go_ret
    refine ⟨ret_int ?_, rfl⟩
    unfold pickI
    rw [if_neg (by omega)]
def someL (after : Int) (n : Nat) (term : Int) : List Et := (List.range n).map fun i : Nat => ⟨term, after + 1 + (i : Int), [100]⟩
theorem someL_succ (after : Int) (n : Nat) (term : Int) : someL after (n + 1) term = someL after n term ++ [⟨term, after + 1 + (n : Int), [100]⟩] := by
  unfold someL
  rw [List.range_succ, List.map_append]
  rfl
theorem someL_length (after : Int) (n : Nat) (term : Int) : (someL after n term).length = n := by simp [someL]
set_option maxHeartbeats 1600000 in
theorem some_any (after : Int) (n : Nat) (term : Int) (w : World) (hn : n ≤ 1000) (h0 : 0 ≤ after) (h1 : after ≤ 3000000000) :
    Calls Try.prog 20 #[.int .i64 after, .int .i64 (n : Int), .int .i64 term] w fun e w' => ∃ v', e = .returned v' ∧ EL w' v' (someL after n term) ∧ (∀ k, v'.ownBlock = some k → w.heap.size ≤ k) ∧ Below w.heap.size w w' := by
  obtain ⟨i0, hi0, hz0, hz1, hz2⟩ := info38
  go_enter Try.func20, Try.ntmps20
  go_wp2_with fail
  go_loopg [7, 8] n (fun kx s7 s8 wr => ∃ (k : Nat) (sv : Value), k ≤ n ∧ n - k ≤ kx ∧ s8 = .int .i64 ((k : Int) + 1) ∧ sv = s7 ∧ Hid (wr.ownsRow w.heap.size 38 3 sv k (flatT (someL after k term)) ∧ Below w.heap.size w wr))
  case atStart => exact ⟨0, _, by omega, by omega, rfl, rfl, ⟨rfl, .inl ⟨rfl, rfl⟩⟩, Below.refl _ _⟩
  case round =>
    obtain ⟨k, sv, hk, hkx, rfl, rfl, HI⟩ := hrel
    by_cases hlt : k < n
    · have hlt' : (k : Int) + 1 ≤ (n : Int) := by omega
      have hw : IntKind.i64.wrap (after + ((k : Int) + 1)) = after + ((k : Int) + 1) := IntWalk.i64_in _ ⟨by omega, by omega⟩
      have HF : Hid (flatT (someL after (k + 1) term) = flatT (someL after k term) ++ [.int .i64 term, .int .i64 (after + ((k : Int) + 1)), .string ⟨#[100]⟩]) := by
        show _ = _
        rw [someL_succ, flatT_append]
        have e : after + 1 + (k : Int) = after + ((k : Int) + 1) := by omega
        rw [e]
        rfl
      have hbw := HI.out.2.size
      have HR : Hid ((wr.alloc (.cells #[.int .i64 term, .int .i64 (after + ((k : Int) + 1)), .string ⟨#[100]⟩] 38)).ownsRow w.heap.size 38 3 sv k (flatT (someL after k term))) := by
        obtain ⟨g1, g2⟩ := HI.out.1
        rcases g2 with g2 | ⟨g, cap, cur, e, hB, hg, r⟩
        · exact ⟨g1, .inl g2⟩
        · exact ⟨g1, .inr ⟨g, cap, cur, e, hB, blk_alloc hg _, r⟩⟩
      have HNW : Hid (∀ j u, ([.int .i64 term, .int .i64 (after + ((k : Int) + 1)), .string ⟨#[100]⟩] : List Value)[j]? = some u → (wr.alloc (.cells #[.int .i64 term, .int .i64 (after + ((k : Int) + 1)), .string ⟨#[100]⟩] 38)).cell? ((⟨wr.heap.size, 0, none⟩ : Addr).add j) = some u) := fun j u hu => by
        rw [add_lit0]
        exact cell_at (heap_alloc_new wr _) (by simpa using hu)
      have HON : Hid (∀ u ∈ ([.int .i64 term, .int .i64 (after + ((k : Int) + 1)), .string ⟨#[100]⟩] : List Value), u.oneCell' = true) := by intro u hu; simp at hu; rcases hu with rfl | rfl | rfl <;> rfl
      have HGR : Hid (∀ w2, (wr.alloc (.cells #[.int .i64 term, .int .i64 (after + ((k : Int) + 1)), .string ⟨#[100]⟩] 38)).grownBy w2 sv.ownBlock → Below w.heap.size w w2) := fun w2 hg => (HI.out.2.alloc hbw _).grown hg (by simp; omega) (fun j hj => (World.ownsRow.lt HI.out.1 j hj).1)
      generalize flatT (someL after k term) = F at *
      go_wp2_with (at_builtin; refine wpList_append_own_at _ rfl _ _ 31 rfl w.heap.size 38 i0 _ 3 32 Try.underlying31 hi0 hz0 hz1 hz2 rfl (by decide) _ k F rfl HR.out ⟨wr.heap.size, 0, none⟩ 1 1 [.int .i64 term, .int .i64 (after + ((k : Int) + 1)), .string ⟨#[100]⟩] rfl rfl HNW.out HON.out (by unfold maxLen; omega) (by omega) (by simp; omega) ?_; intro v' w2 hown2 hg2 _ hat)
      go_roundg (n - (k + 1))
      case measure => omega
      case rel => exact ⟨k + 1, v', by omega, Nat.le_refl _, by go_num, rfl, by rw [HF.out]; exact hown2, HGR.out _ hg2⟩
    · have hlt' : ¬ (k : Int) + 1 ≤ (n : Int) := by omega
      have e : k = n := by omega
      subst e
      have hsh : ∃ o n c, sv = .slice o n c := by
        rcases HI.out.1.2 with ⟨e, _⟩ | ⟨g, cap', cur, e, _⟩
        · exact ⟨_, _, _, e⟩
        · exact ⟨_, _, _, e⟩
      obtain ⟨o, n, c, rfl⟩ := hsh
      go_wp2_with fail
      go_ret
      refine ⟨_, rfl, ?_, fun j hj => (World.ownsRow.lt HI.out.1 j hj).1, HI.out.2⟩
      unfold EL
      rw [someL_length]
      exact ownsRow_low HI.out.1
end Go.Proofs.Ytbgmehanhilicaa

/- The chapter's examples, without memory. -/
namespace Go.Proofs.Ytbgmehanhilicaa
open Go.RowKit Go.Maps
set_option maxRecDepth 100000
set_option linter.unusedSimpArgs false
set_option linter.unusedVariables false

def x1 : LSt := { s0 with term := 1, vote := 2, ht := true }
def x2 : LSt := { x1 with term := 2, vote := 0 }
def x3 : LSt := { x2 with list := [⟨1, 1, [100]⟩, ⟨1, 2, [100]⟩], hl := true }
def x4 : LSt := { x2 with list := [⟨1, 1, [100]⟩, ⟨2, 2, [100]⟩], hl := true }
def x5 : LSt := { x2 with list := [⟨1, 1, [100]⟩, ⟨2, 2, [100]⟩, ⟨2, 3, [100]⟩], hl := true }
def x6 : LSt := { x5 with snap := ⟨2, 2, [115]⟩, list := [⟨2, 3, [100]⟩], hs := true }
def x7 : LSt := { x6 with snap := ⟨5, 9, [116]⟩, list := [] }
theorem t1 : turnE 10000 s0 1 2 = (0, x1) := by kernel_rfl
theorem t2 : turnE 10000 x1 1 3 = (19, x1) := by kernel_rfl
theorem t3 : turnE 10000 x1 0 0 = (13, x1) := by kernel_rfl
theorem t4 : turnE 10000 x1 2 0 = (0, x2) := by kernel_rfl
theorem p1 : putE (10000 - totalA x2.fs) x2 0 (someL 0 2 1) = (0, x3) := by kernel_rfl
theorem p2 : putE (10000 - totalA x3.fs) x3 1 (someL 1 1 2) = (0, x4) := by kernel_rfl
theorem p3 : putE (10000 - totalA x4.fs) x4 1 (someL 1 2 2) = (0, x5) := by kernel_rfl
theorem p4 : putE (10000 - totalA x5.fs) x5 5 [] = (10, x5) := by kernel_rfl
theorem q1 : snapE 10000 x5 2 2 [115] = (0, x6) := by kernel_rfl
theorem q2 : snapE 10000 x6 9 5 [116] = (0, x7) := by kernel_rfl
theorem l4 : lastE x4 = ⟨2, 2, [100]⟩ := by kernel_rfl
theorem a4 : atE x4 2 = some ⟨2, 2, [100]⟩ := by kernel_rfl
theorem a6 : atE x6 2 = none := by kernel_rfl
theorem f5 : (fromE x5 2 9).length = 2 := by kernel_rfl
theorem f7 : (fromE x7 1 9).length = 0 := by kernel_rfl
end Go.Proofs.Ytbgmehanhilicaa

