/- What calls does: one call of a disk, by its number. -/
import Derived.Test.YtpdghpmfacaglaaCut
import Derived.Test.YtpdghpmfacaglaaShown
namespace Go.Proofs.Ytpdghpmfacaglaa
open Go.RowKit Go.Maps Go.Sort
set_option maxRecDepth 100000
set_option linter.unusedSimpArgs false
set_option linter.unusedVariables false

def remL (l : List AF) (n : ByteArray) : List AF := if (alook l n.data.toList).isSome = true then adel l n.data.toList else l

theorem removeA {w : World} {S : Nat → Prop} {a size : Nat} {l : List AF} (h : DiskA w S a size l) (n : ByteArray) (hn : n.size ≤ maxLen) :
    Calls Try.prog 35 #[.pointer (some ⟨a, 0, none⟩), .string n] w fun e w' => e = .returned (.int .i64 (synE l n : Int)) ∧ AfterA S w w' a size (remL l n) := by
  obtain ⟨mo, fs, hd, rfl⟩ := h
  unfold synE remL
  rw [asome_abs]
  cases hs : (flook fs n.data.toList).isSome with
  | true =>
    simp only [if_true]
    exact (remove_yes hd n hn hs).mono (fun e w' ⟨he, hA⟩ => ⟨by rw [he]; rfl, hA.abs' (abs_fdel _ _)⟩)
  | false =>
    simp only [Bool.false_eq_true, if_false]
    exact (remove_no hd n hn hs).mono (fun e w' ⟨he, hb⟩ => ⟨by rw [he]; rfl, AfterA.same ⟨mo, fs, hd, rfl⟩ hb⟩)

def renE (l : List AF) (n t : ByteArray) : Nat := if nameB t = true then synE l n else 1
def renL (l : List AF) (n t : ByteArray) : List AF :=
  if nameB t = true ∧ (alook l n.data.toList).isSome = true then aput (adel l n.data.toList) ⟨t.data.toList, abytes l n.data.toList, asafe l n.data.toList⟩ else l

theorem renameA {w : World} {S : Nat → Prop} {a size : Nat} {l : List AF} (h : DiskA w S a size l) (n t : ByteArray) (hn : n.size ≤ maxLen) (ht : t.size ≤ maxLen) :
    Calls Try.prog 33 #[.pointer (some ⟨a, 0, none⟩), .string n, .string t] w fun e w' => e = .returned (.int .i64 (renE l n t : Int)) ∧ AfterA S w w' a size (renL l n t) := by
  obtain ⟨mo, fs, hd, rfl⟩ := h
  unfold renE renL synE
  rw [asome_abs, abytes_abs, asafe_abs]
  cases hb : nameB t with
  | false =>
    simp only [Bool.false_eq_true, false_and, if_false]
    exact (rename_bad n t ht hb).mono (fun e w' ⟨he, hw⟩ => ⟨by rw [he]; rfl, by rw [hw]; exact AfterA.same ⟨mo, fs, hd, rfl⟩ (Below.refl _ _)⟩)
  | true =>
    cases hf : flook fs n.data.toList with
    | some f =>
      simp only [Option.isSome_some, true_and, if_true]
      refine (rename_yes hd n t hn ht hb f hf).mono (fun e w' ⟨he, hA⟩ => ⟨by rw [he]; rfl, hA.abs' ?_⟩)
      have e1 : bsAt fs n.data.toList = f.bs := by unfold bsAt; rw [hf]
      have e2 : safeAt fs n.data.toList = f.safe := by unfold safeAt; rw [hf]
      rw [abs_fput, abs_fdel, e1, e2]
    | none =>
      simp only [Option.isSome_none, Bool.false_eq_true, and_false, if_false, if_true]
      exact (rename_no hd n t hn ht hb (by rw [hf]; rfl)).mono (fun e w' ⟨he, hb⟩ => ⟨by rw [he]; rfl, AfterA.same ⟨mo, fs, hd, rfl⟩ hb⟩)

def cutE (l : List AF) (n : ByteArray) (i : Int) : Nat := if (alook l n.data.toList).isSome = true then (if 0 ≤ i ∧ i ≤ ((abytes l n.data.toList).length : Int) then 0 else 1) else 8
def cutL (l : List AF) (n : ByteArray) (i : Int) : List AF :=
  if (alook l n.data.toList).isSome = true ∧ 0 ≤ i ∧ i ≤ ((abytes l n.data.toList).length : Int) then aput l ⟨n.data.toList, (abytes l n.data.toList).take i.toNat, min (asafe l n.data.toList) i.toNat⟩ else l

theorem cutA {w : World} {S : Nat → Prop} {a size : Nat} {l : List AF} (h : DiskA w S a size l) (n : ByteArray) (hn : n.size ≤ maxLen) (i : Int) :
    Calls Try.prog 30 #[.pointer (some ⟨a, 0, none⟩), .string n, .int .i64 i] w fun e w' => e = .returned (.int .i64 (cutE l n i : Int)) ∧ AfterA S w w' a size (cutL l n i) := by
  obtain ⟨mo, fs, hd, rfl⟩ := h
  unfold cutE cutL
  rw [asome_abs, abytes_abs, asafe_abs]
  cases hf : flook fs n.data.toList with
  | none =>
    simp only [Option.isSome_none, Bool.false_eq_true, false_and, if_false]
    exact (cut_no hd n hn i (by rw [hf]; rfl)).mono (fun e w' ⟨he, hb⟩ => ⟨by rw [he]; rfl, AfterA.same ⟨mo, fs, hd, rfl⟩ hb⟩)
  | some f =>
    have e1 : bsAt fs n.data.toList = f.bs := by unfold bsAt; rw [hf]
    have e2 : safeAt fs n.data.toList = f.safe := by unfold safeAt; rw [hf]
    simp only [Option.isSome_some, true_and, if_true]
    by_cases hi : 0 ≤ i ∧ i ≤ ((bsAt fs n.data.toList).length : Int)
    · rw [if_pos hi, if_pos hi]
      obtain ⟨L, rfl⟩ := Int.eq_ofNat_of_zero_le hi.1
      rw [e1] at hi ⊢
      refine (cut_yes hd n hn L f hf (by omega)).mono (fun e w' ⟨he, v, hA⟩ => ⟨by rw [he]; rfl, hA.abs' ?_⟩)
      rw [abs_fput, e2, Int.toNat_natCast]
    · rw [if_neg hi, if_neg hi]
      exact (cut_arg hd n hn i (by rw [hf]; rfl) (by omega)).mono (fun e w' ⟨he, hb⟩ => ⟨by rw [he]; rfl, AfterA.same ⟨mo, fs, hd, rfl⟩ hb⟩)

/-- One call's parts. -/
structure OpV where
  kind : Int
  name : ByteArray
  b : ByteArray
  n : Int
  keep : Value

def OpV.ok (o : OpV) : Prop := (-9223372036854775808 ≤ o.kind ∧ o.kind ≤ 9223372036854775807) ∧ o.name.size ≤ maxLen ∧ o.b.size ≤ maxLen ∧ (∃ oa l c, o.keep = .slice oa l c)
def OpV.val (o : OpV) : Value := .agg #[.int .i64 o.kind, .string o.name, .string o.b, .int .i64 o.n, o.keep]

def opE (size : Nat) (l : List AF) (o : OpV) : Nat :=
  if pickI o.kind 8 = 0 ∨ pickI o.kind 8 = 1 ∨ pickI o.kind 8 = 2 then appE size l o.name o.b
  else if pickI o.kind 8 = 3 then synE l o.name
  else if pickI o.kind 8 = 4 then cutE l o.name o.n
  else if pickI o.kind 8 = 5 then repE size l o.name o.b
  else if pickI o.kind 8 = 6 then renE l o.name o.b
  else synE l o.name
def opL (size : Nat) (l : List AF) (o : OpV) : List AF :=
  if pickI o.kind 8 = 0 ∨ pickI o.kind 8 = 1 ∨ pickI o.kind 8 = 2 then appL size l o.name o.b
  else if pickI o.kind 8 = 3 then synL l o.name
  else if pickI o.kind 8 = 4 then cutL l o.name o.n
  else if pickI o.kind 8 = 5 then repL size l o.name o.b
  else if pickI o.kind 8 = 6 then renL l o.name o.b
  else remL l o.name

theorem AfterA.trans_below {S : Nat → Prop} {w w1 w2 : World} {a size : Nat} {l : List AF} (hb : Below w.heap.size w w1) (h : AfterA S w1 w2 a size l) : AfterA S w w2 a size l := by
  obtain ⟨S', hd, h1, h2, h3⟩ := h
  refine ⟨S', hd, fun k hk => ?_, h2, (Keeps.of_below hb).trans h3 (fun x hx => .inl hx)⟩
  rcases h1 k hk with h | h
  · exact .inl h
  · exact .inr (Nat.le_trans hb.size h)

set_option maxHeartbeats 3200000 in
theorem calls_walk (w : World) (a : Nat) (kind : Int) (name b : ByteArray) (n : Int) (oa : Option Addr) (kl kc : Nat) (k : Int) (post : Ending → World → Prop) (hk0 : 0 ≤ k) (hk8 : k < 8)
    (hpick : Hid (∀ W, Calls Try.prog 17 #[.int .i64 kind, .int .i64 8] W fun e w' => e = .returned (.int .i64 k) ∧ w' = W))
    (H0 : Hid (k = 0 ∨ k = 1 ∨ k = 2 → ∀ W, Below w.heap.size w W → Calls Try.prog 15 #[.pointer (some ⟨a, 0, none⟩), .string name, .string b] W fun e w' => ∃ E : Int, e = .returned (.int .i64 E) ∧ post (.returned (.int .i64 E)) w'))
    (H3 : Hid (k = 3 → ∀ W, Below w.heap.size w W → Calls Try.prog 18 #[.pointer (some ⟨a, 0, none⟩), .string name] W fun e w' => ∃ E : Int, e = .returned (.int .i64 E) ∧ post (.returned (.int .i64 E)) w'))
    (H4 : Hid (k = 4 → ∀ W, Below w.heap.size w W → Calls Try.prog 30 #[.pointer (some ⟨a, 0, none⟩), .string name, .int .i64 n] W fun e w' => ∃ E : Int, e = .returned (.int .i64 E) ∧ post (.returned (.int .i64 E)) w'))
    (H5 : Hid (k = 5 → ∀ W, Below w.heap.size w W → Calls Try.prog 22 #[.pointer (some ⟨a, 0, none⟩), .string name, .string b] W fun e w' => ∃ E : Int, e = .returned (.int .i64 E) ∧ post (.returned (.int .i64 E)) w'))
    (H6 : Hid (k = 6 → ∀ W, Below w.heap.size w W → Calls Try.prog 33 #[.pointer (some ⟨a, 0, none⟩), .string name, .string b] W fun e w' => ∃ E : Int, e = .returned (.int .i64 E) ∧ post (.returned (.int .i64 E)) w'))
    (H7 : Hid (k = 7 → ∀ W, Below w.heap.size w W → Calls Try.prog 35 #[.pointer (some ⟨a, 0, none⟩), .string name] W fun e w' => ∃ E : Int, e = .returned (.int .i64 E) ∧ post (.returned (.int .i64 E)) w')) :
    Calls Try.prog 26 #[.pointer (some ⟨a, 0, none⟩), .agg #[.int .i64 kind, .string name, .string b, .int .i64 n, .slice oa kl kc]] w post := by
  have hcase : k = 0 ∨ k = 1 ∨ k = 2 ∨ k = 3 ∨ k = 4 ∨ k = 5 ∨ k = 6 ∨ k = 7 := by omega
  rcases hcase with rfl | rfl | rfl | rfl | rfl | rfl | rfl | rfl
  · go_enter Try.func26, Try.ntmps26
    go_wp2_with (first | (go_at_call 17; refine (hpick.out _).mono ?_; rintro e w1 ⟨rfl, rfl⟩) | (go_at_call 15; refine (H0.out (by decide) _ ((Below.refl _ _).alloc (Nat.le_refl _) _)).mono ?_; rintro e w2 ⟨E, rfl, hA⟩))
    exact hA
  · go_enter Try.func26, Try.ntmps26
    go_wp2_with (first | (go_at_call 17; refine (hpick.out _).mono ?_; rintro e w1 ⟨rfl, rfl⟩) | (go_at_call 15; refine (H0.out (by decide) _ ((Below.refl _ _).alloc (Nat.le_refl _) _)).mono ?_; rintro e w2 ⟨E, rfl, hA⟩))
    exact hA
  · go_enter Try.func26, Try.ntmps26
    go_wp2_with (first | (go_at_call 17; refine (hpick.out _).mono ?_; rintro e w1 ⟨rfl, rfl⟩) | (go_at_call 15; refine (H0.out (by decide) _ ((Below.refl _ _).alloc (Nat.le_refl _) _)).mono ?_; rintro e w2 ⟨E, rfl, hA⟩))
    exact hA
  · go_enter Try.func26, Try.ntmps26
    go_wp2_with (first | (go_at_call 17; refine (hpick.out _).mono ?_; rintro e w1 ⟨rfl, rfl⟩) | (go_at_call 18; refine (H3.out (by decide) _ ((Below.refl _ _).alloc (Nat.le_refl _) _)).mono ?_; rintro e w2 ⟨E, rfl, hA⟩))
    exact hA
  · go_enter Try.func26, Try.ntmps26
    go_wp2_with (first | (go_at_call 17; refine (hpick.out _).mono ?_; rintro e w1 ⟨rfl, rfl⟩) | (go_at_call 30; refine (H4.out (by decide) _ ((Below.refl _ _).alloc (Nat.le_refl _) _)).mono ?_; rintro e w2 ⟨E, rfl, hA⟩))
    exact hA
  · go_enter Try.func26, Try.ntmps26
    go_wp2_with (first | (go_at_call 17; refine (hpick.out _).mono ?_; rintro e w1 ⟨rfl, rfl⟩) | (go_at_call 22; refine (H5.out (by decide) _ ((Below.refl _ _).alloc (Nat.le_refl _) _)).mono ?_; rintro e w2 ⟨E, rfl, hA⟩))
    exact hA
  · go_enter Try.func26, Try.ntmps26
    go_wp2_with (first | (go_at_call 17; refine (hpick.out _).mono ?_; rintro e w1 ⟨rfl, rfl⟩) | (go_at_call 33; refine (H6.out (by decide) _ ((Below.refl _ _).alloc (Nat.le_refl _) _)).mono ?_; rintro e w2 ⟨E, rfl, hA⟩))
    exact hA
  · go_enter Try.func26, Try.ntmps26
    go_wp2_with (first | (go_at_call 17; refine (hpick.out _).mono ?_; rintro e w1 ⟨rfl, rfl⟩) | (go_at_call 35; refine (H7.out (by decide) _ ((Below.refl _ _).alloc (Nat.le_refl _) _)).mono ?_; rintro e w2 ⟨E, rfl, hA⟩))
    exact hA

theorem callsA {w : World} {S : Nat → Prop} {a size : Nat} {l : List AF} (h : DiskA w S a size l) (o : OpV) (ho : o.ok) :
    Calls Try.prog 26 #[.pointer (some ⟨a, 0, none⟩), o.val] w fun e w' => e = .returned (.int .i64 (opE size l o : Int)) ∧ AfterA S w w' a size (opL size l o) := by
  obtain ⟨kind, name, b, n, keep⟩ := o
  obtain ⟨⟨hk1, hk2⟩, hn, hb, oa, kl, kc, rfl⟩ := ho
  simp only at hn hb hk1 hk2
  have hr := pickI_range kind 8 (by decide)
  refine calls_walk w a kind name b n oa kl kc (pickI kind 8) _ hr.1 hr.2 (fun W => pick_any kind 8 W hk1 hk2 (by decide) (by decide))
    (fun hk W hW => ?_) (fun hk W hW => ?_) (fun hk W hW => ?_) (fun hk W hW => ?_) (fun hk W hW => ?_) (fun hk W hW => ?_)
  · refine (appendA (h.under hW) name b hn hb).mono (fun e w' ⟨he, hA⟩ => ⟨_, he, ?_, ?_⟩)
    · unfold opE; rw [if_pos hk]
    · unfold opL; rw [if_pos hk]; exact hA.trans_below hW
  · refine (syncA (h.under hW) name hn).mono (fun e w' ⟨he, hA⟩ => ⟨_, he, ?_, ?_⟩)
    · unfold opE; simp only [hk]; rfl
    · unfold opL; simp only [hk]; exact hA.trans_below hW
  · refine (cutA (h.under hW) name hn n).mono (fun e w' ⟨he, hA⟩ => ⟨_, he, ?_, ?_⟩)
    · unfold opE; simp only [hk]; rfl
    · unfold opL; simp only [hk]; exact hA.trans_below hW
  · refine (replaceA (h.under hW) name b hn hb).mono (fun e w' ⟨he, hA⟩ => ⟨_, he, ?_, ?_⟩)
    · unfold opE; simp only [hk]; rfl
    · unfold opL; simp only [hk]; exact hA.trans_below hW
  · refine (renameA (h.under hW) name b hn hb).mono (fun e w' ⟨he, hA⟩ => ⟨_, he, ?_, ?_⟩)
    · unfold opE; simp only [hk]; rfl
    · unfold opL; simp only [hk]; exact hA.trans_below hW
  · refine (removeA (h.under hW) name hn).mono (fun e w' ⟨he, hA⟩ => ⟨_, he, ?_, ?_⟩)
    · unfold opE; simp only [hk]; rfl
    · unfold opL; simp only [hk]; exact hA.trans_below hW

/-- A refused call, but for a full disk's Append, changes nothing. -/
theorem opL_same (size : Nat) (l : List AF) (o : OpV) (hE : opE size l o ≠ 0) (h7 : ¬ (opE size l o = 7 ∧ (pickI o.kind 8 = 0 ∨ pickI o.kind 8 = 1 ∨ pickI o.kind 8 = 2))) : opL size l o = l := by
  unfold opE at hE h7
  unfold opL
  split at hE
  · rename_i h
    rw [if_pos h] at h7 ⊢
    unfold appE at hE h7
    unfold appL
    by_cases ha : admE l o.name = 0
    · rw [if_pos ha] at hE h7
      split at hE
      · exact absurd rfl hE
      · rename_i h2
        rw [if_neg h2] at h7
        exact absurd ⟨rfl, h⟩ h7
    · rw [if_neg ha]
  · rename_i h
    rw [if_neg h]
    split at hE
    · rename_i h3
      rw [if_pos h3]
      unfold synE at hE
      unfold synL
      split at hE
      · exact absurd rfl hE
      · rename_i h4; rw [if_neg h4]
    · rename_i h3
      rw [if_neg h3]
      split at hE
      · rename_i h4
        rw [if_pos h4]
        unfold cutE at hE
        unfold cutL
        split at hE
        · split at hE
          · exact absurd rfl hE
          · rename_i h5; rw [if_neg (fun h => h5 h.2)]
        · rename_i h5; rw [if_neg (fun h => h5 h.1)]
      · rename_i h4
        rw [if_neg h4]
        split at hE
        · rename_i h5
          rw [if_pos h5]
          unfold repE at hE
          unfold repL
          split at hE
          · split at hE
            · exact absurd rfl hE
            · rename_i h6; rw [if_neg (fun h => h6 h.2)]
          · rename_i h6; rw [if_neg (fun h => h6 h.1)]
        · rename_i h5
          rw [if_neg h5]
          split at hE
          · rename_i h6
            rw [if_pos h6]
            unfold renE synE at hE
            unfold renL
            split at hE
            · split at hE
              · exact absurd rfl hE
              · rename_i h7; rw [if_neg (fun h => h7 h.2)]
            · rename_i h7; rw [if_neg (fun h => h7 h.1)]
          · rename_i h6
            rw [if_neg h6]
            unfold synE at hE
            unfold remL
            split at hE
            · exact absurd rfl hE
            · rename_i h7; rw [if_neg h7]
end Go.Proofs.Ytpdghpmfacaglaa
