/- heap.up and heap.down over the queue. -/
import Derived.Test.YtohbnkghenlnoaaSwap
import Derived.Deep.LoopGhost
namespace Go.Proofs.Ytohbnkghenlnoaa
open Go.RowKit Go.Maps
set_option maxRecDepth 100000
set_option linter.unusedSimpArgs false
set_option linter.unusedVariables false

theorem hid {p : Prop} (h : p) : Hid p := h
theorem Keeps.refl (S : Nat → Prop) (w : World) : Keeps S w w := ⟨rfl, rfl, rfl, Nat.le_refl _, fun _ _ _ => rfl⟩
theorem Keeps.trans {S : Nat → Prop} {w w1 w2 : World} (h : Keeps S w w1) (k : Keeps S w1 w2) : Keeps S w w2 :=
  ⟨k.os.trans h.os, k.tape.trans h.tape, k.output.trans h.output, Nat.le_trans h.size k.size, fun i hi hS => (k.block i (Nat.lt_of_lt_of_le hi h.size) hS).trans (h.block i hi hS)⟩
theorem Keeps.of_below {S : Nat → Prop} {w w1 : World} (h : Below w.heap.size w w1) : Keeps S w w1 := ⟨h.os, h.tape, h.output, h.size, fun k hk _ => h.block k hk⟩

/-- The queue's pointer in an interface value. -/
def qi (a : Nat) : Value := .iface 56 (.pointer (some ⟨a, 0, none⟩))

theorem mLess (a : Nat) (w : World) : Sem.run Try.prog (method (Try.prog.types.size + 100) 56 (.pointer (some ⟨a, 0, none⟩)) "Less") w = .ok (47, .pointer (some ⟨a, 0, none⟩)) w := by kernel_rfl
theorem mSwap (a : Nat) (w : World) : Sem.run Try.prog (method (Try.prog.types.size + 100) 56 (.pointer (some ⟨a, 0, none⟩)) "Swap") w = .ok (50, .pointer (some ⟨a, 0, none⟩)) w := by kernel_rfl
theorem mLen (a : Nat) (w : World) : Sem.run Try.prog (method (Try.prog.types.size + 100) 56 (.pointer (some ⟨a, 0, none⟩)) "Len") w = .ok (27, .pointer (some ⟨a, 0, none⟩)) w := by kernel_rfl
theorem mPush (a : Nat) (w : World) : Sem.run Try.prog (method (Try.prog.types.size + 100) 56 (.pointer (some ⟨a, 0, none⟩)) "Push") w = .ok (49, .pointer (some ⟨a, 0, none⟩)) w := by kernel_rfl
theorem mPop (a : Nat) (w : World) : Sem.run Try.prog (method (Try.prog.types.size + 100) 56 (.pointer (some ⟨a, 0, none⟩)) "Pop") w = .ok (48, .pointer (some ⟨a, 0, none⟩)) w := by kernel_rfl

/-- The queue behind some moves: l' in the row, nothing else turned. -/
def QAt (w w' : World) (S : Nat → Prop) (a : Nat) (v : Value) (mo : Option Nat) (l' : List Tm) : Prop := ∃ ps', QM w' S a v mo l' ps' ∧ Keeps S w w'

theorem upL_stop {l : List Tm} {j : Nat} (h : j = 0 ∨ bef (g l j) (g l ((j - 1) / 2)) = false) : upL l j = l := by
  rw [upL]
  rcases h with h | h
  · rw [dif_pos h]
  · split
    · rfl
    · rw [h]; rfl
theorem upL_go {l : List Tm} {j : Nat} (h0 : 0 < j) (h : bef (g l j) (g l ((j - 1) / 2)) = true) : upL l j = upL (swp l ((j - 1) / 2) j) ((j - 1) / 2) := by
  rw [upL, dif_neg (by omega), if_pos h]

set_option maxHeartbeats 1600000 in
theorem up_any {w : World} {S : Nat → Prop} {a : Nat} {v : Value} {mo : Option Nat} {l : List Tm} {ps : List (Int × Int)} (h : QM w S a v mo l ps) (j : Nat) (hj : j < l.length) :
    Calls Try.prog 29 #[qi a, .int .i64 (j : Int)] w fun e w' => e = .returned (.tuple #[]) ∧ QAt w w' S a v mo (upL l j) := by
  have mL := mLess a
  have mS := mSwap a
  have hfew := h.few
  have H0 : Hid (QAt w w S a v mo l) := ⟨ps, h, .refl S w⟩
  clear h
  unfold qi
  go_enter Try.func29, Try.ntmps29
  go_wp2
  go_loopg [1] j (fun kx s1 wr => ∃ (k : Nat) (lk : List Tm), s1 = .int .i64 (k : Int) ∧ k < l.length ∧ k ≤ kx ∧ lk.length = l.length ∧ Hid (QAt w wr S a v mo lk) ∧ Hid (upL lk k = upL l j))
  case atStart => exact ⟨j, l, rfl, hj, Nat.le_refl _, rfl, H0, rfl⟩
  case round =>
    obtain ⟨k, lk, rfl, hk, hkx, hlen, HQ, HE⟩ := hrel
    by_cases k0 : k = 0
    · subst k0
      have HF : Hid (upL l j = lk) := by show _ = _; rw [← HE.out, upL_stop (.inl rfl)]
      go_wp2
      go_end0
      exact ⟨rfl, by rw [HF.out]; exact HQ.out⟩
    · obtain ⟨p, hp⟩ : ∃ p : Nat, p = (k - 1) / 2 := ⟨_, rfl⟩
      have hpz : ((k : Int) - 1) / 2 = (p : Int) := by omega
      have hpk : ¬ ((k : Int) - 1) / 2 = (k : Int) := by omega
      have HP : Hid (((k : Int) - 1) / 2 = (p : Int)) := hpz
      have hlt : p < k := by omega
      have HL : Hid (Calls Try.prog 47 #[.pointer (some ⟨a, 0, none⟩), .int .i64 (k : Int), .int .i64 (p : Int)] wr fun e w' => e = .returned (.bool (bef (g lk k) (g lk p))) ∧ QAt w w' S a v mo lk) := by
        obtain ⟨ps', hq, hkp⟩ := HQ.out
        exact (less_any hq k p (by omega) (by omega)).mono fun e w' ⟨he, hb⟩ => ⟨he, ps', hq.under hb, hkp.trans (.of_below hb)⟩
      cases hb : bef (g lk k) (g lk p) with
      | false =>
        have HF : Hid (upL l j = lk) := by show _ = _; rw [← HE.out, upL_stop (.inr (by rw [← hp]; exact hb))]
        rw [hb] at HL
        rw [← hpz] at HL
        clear HE HQ hp hpz
        go_wp2_with (first | (go_at_call 47; refine HL.out.mono ?_; rintro e w' ⟨rfl, hq'⟩; have HQ' := hid hq'; clear hq'))
        go_end0
        exact ⟨rfl, by rw [HF.out]; exact HQ'.out⟩
      | true =>
        have HF : Hid (upL (swp lk p k) p = upL l j) := by show _ = _; rw [← HE.out, upL_go (l := lk) (j := k) (by omega) (by rw [← hp]; exact hb), ← hp]
        rw [hb] at HL
        have HS : Hid (∀ wx, QAt w wx S a v mo lk → Calls Try.prog 50 #[.pointer (some ⟨a, 0, none⟩), .int .i64 (p : Int), .int .i64 (k : Int)] wx fun e w' => e = .returned (.tuple #[]) ∧ QAt w w' S a v mo (swp lk p k)) := fun wx ⟨ps', hq, hkp⟩ =>
          (swap_any hq p k (by omega) (by omega)).mono fun e w' ⟨he, ps2, hq2, hk2⟩ => ⟨he, ps2, hq2, hkp.trans hk2⟩
        rw [← hpz] at HL HS
        clear HE HQ hp hpz
        go_wp2_with (first
          | (go_at_call 47; refine HL.out.mono ?_; rintro e w' ⟨rfl, hq'⟩; have HQ' := hid hq'; clear hq')
          | (go_at_call 50; refine (HS.out _ HQ'.out).mono ?_; rintro e w2 ⟨rfl, hq2⟩; have HQ2 := hid hq2; clear hq2))
        go_roundg p
        case measure => omega
        case rel => exact ⟨p, swp lk p k, by rw [← HP.out], by omega, Nat.le_refl _, by rw [swp_len]; exact hlen, HQ2, HF⟩

end Go.Proofs.Ytohbnkghenlnoaa
