/- heap.Fix, Push, Pop, Remove over the queue. -/
import Derived.Test.YtohbnkghenlnoaaPush
namespace Go.Proofs.Ytohbnkghenlnoaa
open Go.RowKit Go.Maps
set_option maxRecDepth 100000
set_option linter.unusedSimpArgs false
set_option linter.unusedVariables false

theorem lenAt {w wx : World} {S : Nat → Prop} {a : Nat} {v : Value} {mo : Option Nat} {l : List Tm} (h : QAt w wx S a v mo l) :
    Calls Try.prog 27 #[.pointer (some ⟨a, 0, none⟩)] wx fun e w' => e = .returned (.int .i64 (l.length : Int)) ∧ w' = wx := by
  obtain ⟨ps, hq, _⟩ := h
  exact len_any hq
theorem upAt {w wx : World} {S : Nat → Prop} {a : Nat} {v : Value} {mo : Option Nat} {l : List Tm} (h : QAt w wx S a v mo l) (j : Nat) (hj : j < l.length) :
    Calls Try.prog 29 #[.iface 56 (.pointer (some ⟨a, 0, none⟩)), .int .i64 (j : Int)] wx fun e w' => e = .returned (.tuple #[]) ∧ QAt w w' S a v mo (upL l j) := by
  obtain ⟨ps, hq, hk⟩ := h
  exact (up_any hq j hj).mono fun e w' ⟨he, ps2, hq2, hk2⟩ => ⟨he, ps2, hq2, hk.trans hk2⟩
theorem downAt {w wx : World} {S : Nat → Prop} {a : Nat} {v : Value} {mo : Option Nat} {l : List Tm} (h : QAt w wx S a v mo l) (i n : Nat) (hi : i ≤ n) (hn : n ≤ l.length) :
    Calls Try.prog 28 #[.iface 56 (.pointer (some ⟨a, 0, none⟩)), .int .i64 (i : Int), .int .i64 (n : Int)] wx fun e w' => e = .returned (.bool (decide (i < (downL l i n).2))) ∧ QAt w w' S a v mo (downL l i n).1 := by
  obtain ⟨ps, hq, hk⟩ := h
  exact (down_any hq i n hi hn).mono fun e w' ⟨he, ps2, hq2, hk2⟩ => ⟨he, ps2, hq2, hk.trans hk2⟩
theorem popAt {w wx : World} {S : Nat → Prop} {a : Nat} {v : Value} {mo : Option Nat} {l : List Tm} (h : QAt w wx S a v mo l) (n : Nat) (hn : n + 1 = l.length) :
    Calls Try.prog 48 #[.pointer (some ⟨a, 0, none⟩)] wx fun e w' => e = .returned (.iface 54 (tval (g l n))) ∧ ∃ v', QAt w w' S a v' mo (l.take n) := by
  obtain ⟨ps, hq, hk⟩ := h
  exact (pop_any hq n hn).mono fun e w' ⟨he, v', ps2, hq2, hk2⟩ => ⟨he, v', ps2, hq2, hk.trans hk2⟩
theorem QAt.len {w wx : World} {S : Nat → Prop} {a : Nat} {v : Value} {mo : Option Nat} {l : List Tm} (h : QAt w wx S a v mo l) : l.length ≤ 1000 := by
  obtain ⟨ps, hq, _⟩ := h
  exact hq.few

set_option maxHeartbeats 800000 in
theorem fix_any {w : World} {S : Nat → Prop} {a : Nat} {v : Value} {mo : Option Nat} {l : List Tm} (h : QAt w w S a v mo l) (i : Nat) (hi : i < l.length) :
    Calls Try.prog 21 #[qi a, .int .i64 (i : Int)] w fun e w' => e = .returned (.tuple #[]) ∧ QAt w w' S a v mo (fixL l i l.length) := by
  have mL := mLen a
  have hfew := h.len
  have HLen := hid (lenAt h)
  have HD := hid (downAt h i l.length (by omega) (Nat.le_refl _))
  have HU : Hid (∀ wx, QAt w wx S a v mo (downL l i l.length).1 → Calls Try.prog 29 #[.iface 56 (.pointer (some ⟨a, 0, none⟩)), .int .i64 (i : Int)] wx fun e w' => e = .returned (.tuple #[]) ∧ QAt w w' S a v mo (upL (downL l i l.length).1 i)) := fun wx hx =>
    upAt hx i (by rw [downL_len _ _ _ _ (Nat.le_refl _)]; exact hi)
  clear h
  unfold qi
  by_cases hm : i < (downL l i l.length).2
  · have HF : Hid (fixL l i l.length = (downL l i l.length).1) := by show _ = _; rw [fixL, if_pos hm]
    rw [decide_eq_true hm] at HD
    clear hm HU
    go_enter Try.func21, Try.ntmps21
    go_wp2_with (first
      | (go_at_call 27; refine HLen.out.mono ?_; rintro e w' ⟨rfl, rfl⟩)
      | (go_at_call 28; refine HD.out.mono ?_; rintro e w2 ⟨rfl, hq⟩; have HQ := hid hq; clear hq))
    go_end0
    exact ⟨rfl, by rw [HF.out]; exact HQ.out⟩
  · have HF : Hid (fixL l i l.length = upL (downL l i l.length).1 i) := by show _ = _; rw [fixL, if_neg hm]
    rw [decide_eq_false hm] at HD
    clear hm
    go_enter Try.func21, Try.ntmps21
    go_wp2_with (first
      | (go_at_call 27; refine HLen.out.mono ?_; rintro e w' ⟨rfl, rfl⟩)
      | (go_at_call 28; refine HD.out.mono ?_; rintro e w2 ⟨rfl, hq⟩; have HQ := hid hq; clear hq)
      | (go_at_call 29; refine (HU.out _ HQ.out).mono ?_; rintro e w3 ⟨rfl, hq⟩; have HQ2 := hid hq; clear hq))
    go_end0
    exact ⟨rfl, by rw [HF.out]; exact HQ2.out⟩

/-- Timers behind a call: l' in the heap, their blocks those of S and new ones. -/
def After (S : Nat → Prop) (w w' : World) (a : Nat) (l' : List Tm) : Prop := ∃ S' v' mo' ps', QM w' S' a v' mo' l' ps' ∧ (∀ k, S' k → S k ∨ w.heap.size ≤ k) ∧ (∀ k, S k → S' k) ∧ Keeps S w w'

theorem QAt.after {w wx : World} {S : Nat → Prop} {a : Nat} {v : Value} {mo : Option Nat} {l : List Tm} (h : QAt w wx S a v mo l) : After S w wx a l := by
  obtain ⟨ps, hq, hk⟩ := h
  exact ⟨S, v, mo, ps, hq, fun k hk => .inl hk, fun k hk => hk, hk⟩

theorem push_then {w : World} {S : Nat → Prop} {a : Nat} {v : Value} {mo : Option Nat} {l : List Tm} {ps : List (Int × Int)} (h : QM w S a v mo l ps) (x : Tm) (hx : ∀ y ∈ l, y.key ≠ x.key) (hr : I64 x.key) (hl : l.length < 1000) :
    Calls Try.prog 49 #[.pointer (some ⟨a, 0, none⟩), .iface 54 (tval x)] w fun e w' => e = .returned (.tuple #[]) ∧
      Hid (Calls Try.prog 27 #[.pointer (some ⟨a, 0, none⟩)] w' fun e w2 => e = .returned (.int .i64 ((l.length : Int) + 1)) ∧ w2 = w') ∧
      Hid (Calls Try.prog 29 #[.iface 56 (.pointer (some ⟨a, 0, none⟩)), .int .i64 (l.length : Int)] w' fun e w2 => e = .returned (.tuple #[]) ∧ After S w w2 a (upL (l ++ [x]) l.length)) := by
  refine (push_any h x hx hr hl).mono ?_
  rintro e w' ⟨rfl, S', v', mo', ps', hq, r1, r2, r3⟩
  refine ⟨rfl, ?_, ?_⟩
  · have := len_any hq
    exact hid (by simpa using this)
  · refine (up_any hq l.length (by simp)).mono ?_
    rintro e w3 ⟨rfl, ps2, hq2, hk2⟩
    exact ⟨rfl, S', v', mo', ps2, hq2, r1, r2, ⟨hk2.os.trans r3.os, hk2.tape.trans r3.tape, hk2.output.trans r3.output, Nat.le_trans r3.size hk2.size, fun k hk hS => (hk2.block k (Nat.lt_of_lt_of_le hk r3.size) (fun h => (r1 k h).elim hS (by omega))).trans (r3.block k hk hS)⟩⟩

set_option maxHeartbeats 800000 in
theorem hpush_any {w : World} {S : Nat → Prop} {a : Nat} {v : Value} {mo : Option Nat} {l : List Tm} {ps : List (Int × Int)} (h : QM w S a v mo l ps) (x : Tm) (hx : ∀ y ∈ l, y.key ≠ x.key) (hr : I64 x.key) (hl : l.length < 1000) :
    Calls Try.prog 22 #[qi a, .iface 54 (tval x)] w fun e w' => e = .returned (.tuple #[]) ∧ After S w w' a (upL (l ++ [x]) l.length) := by
  have mL := mLen a
  have mP := mPush a
  have HP := hid (push_then h x hx hr hl)
  clear h hx
  unfold qi
  generalize Value.iface 54 (tval x) = tv at *
  go_enter Try.func22, Try.ntmps22
  go_wp2_with (first
    | (go_at_call 49; refine HP.out.mono ?_; rintro e w' ⟨rfl, HLen, HU⟩)
    | (go_at_call 27; refine HLen.out.mono ?_; rintro e w2 ⟨rfl, rfl⟩)
    | (go_at_call 29; refine HU.out.mono ?_; rintro e w3 ⟨rfl, hq⟩; have HQ2 := hid hq; clear hq))
  go_end0
  exact ⟨rfl, HQ2.out⟩

set_option maxHeartbeats 800000 in
/-- heap.Pop: what was first is told, and is gone. -/
theorem hpop_any {w : World} {S : Nat → Prop} {a : Nat} {v : Value} {mo : Option Nat} {l : List Tm} (h : QAt w w S a v mo l) (n : Nat) (hn : n + 1 = l.length) :
    Calls Try.prog 26 #[qi a] w fun e w' => e = .returned (.iface 54 (tval (g (downL (swp l 0 n) 0 n).1 n))) ∧ ∃ v', QAt w w' S a v' mo ((downL (swp l 0 n) 0 n).1.take n) := by
  have mL := mLen a
  have mS := mSwap a
  have mP := mPop a
  have hfew := h.len
  have HLen := hid (lenAt h)
  have HS := hid (swapAt h 0 n (by omega) (by omega) 0 (n : Int) rfl rfl)
  have hlz : (l.length : Int) - 1 = (n : Int) := by omega
  have HD : Hid (∀ wx, QAt w wx S a v mo (swp l 0 n) → Calls Try.prog 28 #[.iface 56 (.pointer (some ⟨a, 0, none⟩)), .int .i64 0, .int .i64 (n : Int)] wx fun e w' => ∃ b, e = .returned (.bool b) ∧ QAt w w' S a v mo (downL (swp l 0 n) 0 n).1) := fun wx hx =>
    (downAt hx 0 n (by omega) (by rw [swp_len]; omega)).mono fun e w' ⟨he, hq⟩ => ⟨_, he, hq⟩
  have HP : Hid (∀ wx, QAt w wx S a v mo (downL (swp l 0 n) 0 n).1 → Calls Try.prog 48 #[.pointer (some ⟨a, 0, none⟩)] wx fun e w' => e = .returned (.iface 54 (tval (g (downL (swp l 0 n) 0 n).1 n))) ∧ ∃ v', QAt w w' S a v' mo ((downL (swp l 0 n) 0 n).1.take n)) := fun wx hx =>
    popAt hx n (by rw [downL_len _ _ _ _ (Nat.le_refl _), swp_len]; exact hn)
  clear h
  unfold qi
  generalize Value.iface 54 (tval (g (downL (swp l 0 n) 0 n).1 n)) = tv at *
  go_enter Try.func26, Try.ntmps26
  go_wp2_with (first
    | (go_at_call 27; refine HLen.out.mono ?_; rintro e w' ⟨rfl, rfl⟩)
    | (go_at_call 50; refine HS.out.mono ?_; rintro e w2 ⟨rfl, hq⟩; have HQ := hid hq; clear hq)
    | (go_at_call 28; refine (HD.out _ HQ.out).mono ?_; rintro e w3 ⟨bb, rfl, hq⟩; have HQ2 := hid hq; clear hq)
    | (go_at_call 48; refine (HP.out _ HQ2.out).mono ?_; rintro e w4 ⟨rfl, hq⟩; have HQ3 := hid hq; clear hq))
  go_ret
  exact ⟨rfl, HQ3.out⟩

/-- What heap.Remove makes of the row before the last is dropped. -/
def remL (l : List Tm) (i n : Nat) : List Tm := if n = i then l else fixL (swp l i n) i n

set_option maxHeartbeats 1600000 in
theorem hrem_any {w : World} {S : Nat → Prop} {a : Nat} {v : Value} {mo : Option Nat} {l : List Tm} (h : QAt w w S a v mo l) (i n : Nat) (hn : n + 1 = l.length) (hi : i ≤ n) :
    Calls Try.prog 25 #[qi a, .int .i64 (i : Int)] w fun e w' => (∃ x, e = .returned (.iface 54 (tval x))) ∧ ∃ v', QAt w w' S a v' mo ((remL l i n).take n) := by
  have mL := mLen a
  have mS := mSwap a
  have mP := mPop a
  have hfew := h.len
  have HLen := hid (lenAt h)
  have hlz : (l.length : Int) - 1 = (n : Int) := by omega
  have HP : Hid (∀ wx l', l'.length = l.length → QAt w wx S a v mo l' → Calls Try.prog 48 #[.pointer (some ⟨a, 0, none⟩)] wx fun e w' => e = .returned (.iface 54 (tval (g l' n))) ∧ ∃ v', QAt w w' S a v' mo (l'.take n)) := fun wx l' hl' hx =>
    popAt hx n (by omega)
  by_cases hin : n = i
  · subst hin
    have HR : Hid (remL l n n = l) := by show _ = _; rw [remL, if_pos rfl]
    have HP1 := hid (HP.out w l rfl h)
    clear HP h
    unfold qi
    obtain ⟨tv, htv⟩ : ∃ tv, tv = Value.iface 54 (tval (g l n)) := ⟨_, rfl⟩
    rw [← htv] at HP1
    have HT := hid htv
    clear htv
    go_enter Try.func25, Try.ntmps25
    go_wp2_with (first
      | (go_at_call 27; refine HLen.out.mono ?_; rintro e w' ⟨rfl, rfl⟩)
      | (go_at_call 48; refine HP1.out.mono ?_; rintro e w4 ⟨rfl, hq⟩; have HQ3 := hid hq; clear hq))
    go_ret
    exact ⟨⟨_, by rw [← HT.out]; rfl⟩, by rw [HR.out]; exact HQ3.out⟩
  · have hinz : ¬ (n : Int) = (i : Int) := by omega
    have HS := hid (swapAt h i n (by omega) (by omega) (i : Int) (n : Int) rfl rfl)
    have hsl := swp_len l i n
    have hdl := downL_len n _ i (swp l i n) (Nat.le_refl _)
    have HD : Hid (∀ wx, QAt w wx S a v mo (swp l i n) → Calls Try.prog 28 #[.iface 56 (.pointer (some ⟨a, 0, none⟩)), .int .i64 (i : Int), .int .i64 (n : Int)] wx fun e w' => e = .returned (.bool (decide (i < (downL (swp l i n) i n).2))) ∧ QAt w w' S a v mo (downL (swp l i n) i n).1) := fun wx hx =>
      downAt hx i n hi (by omega)
    have HU : Hid (∀ wx, QAt w wx S a v mo (downL (swp l i n) i n).1 → Calls Try.prog 29 #[.iface 56 (.pointer (some ⟨a, 0, none⟩)), .int .i64 (i : Int)] wx fun e w' => e = .returned (.tuple #[]) ∧ QAt w w' S a v mo (upL (downL (swp l i n) i n).1 i)) := fun wx hx =>
      upAt hx i (by omega)
    clear h
    unfold qi
    by_cases hm : i < (downL (swp l i n) i n).2
    · have HR : Hid (remL l i n = (downL (swp l i n) i n).1) := by show _ = _; rw [remL, if_neg hin, fixL, if_pos hm]
      have HP1 : Hid (∀ wx, QAt w wx S a v mo (downL (swp l i n) i n).1 → Calls Try.prog 48 #[.pointer (some ⟨a, 0, none⟩)] wx fun e w' => e = .returned (.iface 54 (tval (g (downL (swp l i n) i n).1 n))) ∧ ∃ v', QAt w w' S a v' mo ((downL (swp l i n) i n).1.take n)) := fun wx hx => HP.out wx _ (by omega) hx
      obtain ⟨tv, htv⟩ : ∃ tv, tv = Value.iface 54 (tval (g (downL (swp l i n) i n).1 n)) := ⟨_, rfl⟩
      rw [← htv] at HP1
      have HT := hid htv
      rw [decide_eq_true hm] at HD
      clear htv hm HU HP hsl hdl
      go_enter Try.func25, Try.ntmps25
      go_wp2_with (first
        | (go_at_call 27; refine HLen.out.mono ?_; rintro e w' ⟨rfl, rfl⟩)
        | (go_at_call 50; refine HS.out.mono ?_; rintro e w2 ⟨rfl, hq⟩; have HQ := hid hq; clear hq)
        | (go_at_call 28; refine (HD.out _ HQ.out).mono ?_; rintro e w3 ⟨rfl, hq⟩; have HQ2 := hid hq; clear hq)
        | (go_at_call 48; refine (HP1.out _ HQ2.out).mono ?_; rintro e w4 ⟨rfl, hq⟩; have HQ3 := hid hq; clear hq))
      go_ret
      exact ⟨⟨_, by rw [← HT.out]; rfl⟩, by rw [HR.out]; exact HQ3.out⟩
    · have HR : Hid (remL l i n = upL (downL (swp l i n) i n).1 i) := by show _ = _; rw [remL, if_neg hin, fixL, if_neg hm]
      have HP1 : Hid (∀ wx, QAt w wx S a v mo (upL (downL (swp l i n) i n).1 i) → Calls Try.prog 48 #[.pointer (some ⟨a, 0, none⟩)] wx fun e w' => e = .returned (.iface 54 (tval (g (upL (downL (swp l i n) i n).1 i) n))) ∧ ∃ v', QAt w w' S a v' mo ((upL (downL (swp l i n) i n).1 i).take n)) := fun wx hx => HP.out wx _ (by rw [upL_len]; omega) hx
      obtain ⟨tv, htv⟩ : ∃ tv, tv = Value.iface 54 (tval (g (upL (downL (swp l i n) i n).1 i) n)) := ⟨_, rfl⟩
      rw [← htv] at HP1
      have HT := hid htv
      rw [decide_eq_false hm] at HD
      clear htv hm HP hsl hdl
      go_enter Try.func25, Try.ntmps25
      go_wp2_with (first
        | (go_at_call 27; refine HLen.out.mono ?_; rintro e w' ⟨rfl, rfl⟩)
        | (go_at_call 50; refine HS.out.mono ?_; rintro e w2 ⟨rfl, hq⟩; have HQ := hid hq; clear hq)
        | (go_at_call 28; refine (HD.out _ HQ.out).mono ?_; rintro e w3 ⟨rfl, hq⟩; have HQ2 := hid hq; clear hq)
        | (go_at_call 29; refine (HU.out _ HQ2.out).mono ?_; rintro e w5 ⟨rfl, hq⟩; have HQ5 := hid hq; clear hq)
        | (go_at_call 48; refine (HP1.out _ HQ5.out).mono ?_; rintro e w4 ⟨rfl, hq⟩; have HQ3 := hid hq; clear hq))
      go_ret
      exact ⟨⟨_, by rw [← HT.out]; rfl⟩, by rw [HR.out]; exact HQ3.out⟩

end Go.Proofs.Ytohbnkghenlnoaa
