/- The walk of TimerMany. -/
import Derived.Test.YtohbnkghenlnoaaMany
namespace Go.Proofs.Ytohbnkghenlnoaa
open Go.RowKit Go.Maps
set_option maxRecDepth 100000
set_option linter.unusedSimpArgs false
set_option linter.unusedVariables false

set_option maxHeartbeats 4000000 in
theorem many_walk (n0 t0 k0 : Int) (w : World) (hn : I64 n0) (ht : I64 t0) (hk : I64 k0) :
    Calls Try.prog 4 #[.int .i64 n0, .int .i64 t0, .int .i64 k0] w fun e w' => e = .returned (.bool true) ∧ Below w.heap.size w w' := by
  have HSh := hid (shown_any w)
  have HNew : Hid (∀ w1, Below w.heap.size w w1 → Calls Try.prog 7 #[] w1 fun e w' => ∃ a, e = .returned (.pointer (some ⟨a, 0, none⟩)) ∧ On w w' a []) := fun w1 hb =>
    (on_new hb).mono fun e w' ⟨he, ho⟩ => ⟨_, he, ho⟩
  obtain ⟨q, hq, HP1⟩ : ∃ q : Nat, q < 20 ∧ Hid (∀ wx, Calls Try.prog 8 #[.int .i64 n0, .int .i64 20] wx fun e w' => e = .returned (.int .i64 (q : Int)) ∧ w' = wx) := by
    have hr := pickI_range n0 20 (by decide)
    refine ⟨(pickI n0 20).toNat, by omega, fun wx => ?_⟩
    have := pick_any n0 20 wx hn (by decide) (by decide)
    rwa [show ((pickI n0 20).toNat : Int) = pickI n0 20 by omega]
  obtain ⟨T, hT0, hT1, HP2⟩ : ∃ T : Nat, 0 ≤ T ∧ T ≤ 1000000000 ∧ Hid (∀ wx, Calls Try.prog 8 #[.int .i64 t0, .int .i64 1000000001] wx fun e w' => e = .returned (.int .i64 (T : Int)) ∧ w' = wx) := by
    have hr := pickI_range t0 1000000001 (by decide)
    refine ⟨(pickI t0 1000000001).toNat, by omega, by omega, fun wx => ?_⟩
    have := pick_any t0 1000000001 wx ht (by decide) (by decide)
    rwa [show ((pickI t0 1000000001).toNat : Int) = pickI t0 1000000001 by omega]
  obtain ⟨A, hA⟩ : ∃ A : Nat, A = min (990 + q) 1000 := ⟨_, rfl⟩
  have hA1 : 990 ≤ A ∧ A ≤ 1000 := by omega
  obtain ⟨K, hK, HP3⟩ : ∃ K : Nat, K < A ∧ Hid (∀ wx, Calls Try.prog 8 #[.int .i64 k0, .int .i64 (A : Int)] wx fun e w' => e = .returned (.int .i64 (K : Int)) ∧ w' = wx) := by
    have hr := pickI_range k0 (A : Int) (by omega)
    refine ⟨(pickI k0 (A : Int)).toNat, by omega, fun wx => ?_⟩
    have := pick_any k0 (A : Int) wx hk (by omega) (by omega)
    rwa [show ((pickI k0 (A : Int)).toNat : Int) = pickI k0 (A : Int) by omega]
  have hAz : min (990 + (q : Int)) 1000 = (A : Int) := by omega
  have HA := hid hA
  clear hA hn ht hk
  go_enter Try.func4, Try.ntmps4
  go_wp2_with (first
    | (go_at_call 6; refine HSh.out.mono ?_; rintro e w1 ⟨rfl, hb⟩; have HB := hid hb; clear hb HSh)
    | (go_at_call 7; refine (HNew.out _ HB.out).mono ?_; rintro e w2 ⟨a, rfl, ho⟩; have HO := hid ho; clear ho HNew HB)
    | (go_at_call 8; refine (HP1.out _).mono ?_; rintro e w3 ⟨rfl, h⟩; subst h; clear HP1)
    | (go_at_call 8; refine (HP2.out _).mono ?_; rintro e w3 ⟨rfl, h⟩; subst h; clear HP2))
  go_loopg [9] (990 + q) (fun kx s1 wr => ∃ (i : Nat) (s : List Tm), s1 = .int .i64 (i : Int) ∧ i ≤ 990 + q ∧ 990 + q - i ≤ kx ∧ Hid (On w wr a s ∧ ManyL s i))
  case atStart => exact ⟨0, [], rfl, by omega, by omega, HO.out, ManyL.zero⟩
  case round =>
    obtain ⟨i, s, rfl, hi, hkx, HI⟩ := hrel
    have hslen := HI.out.1.len
    by_cases hlt : i < 990 + q
    · have hltz : (i : Int) < 990 + (q : Int) := by omega
      have HSet : Hid (∀ t, 0 ≤ t → t ≤ 1000000000 → Calls Try.prog 9 #[.pointer (some ⟨a, 0, none⟩), .int .i64 (i : Int), .int .i64 t] wr fun e w' => e = .returned (.int .i64 (if i < 1000 then 0 else 3)) ∧ ∃ s', On w w' a s' ∧ ManyL s' (i + 1)) := fun t h0 h1 => by
        obtain ⟨e1, e2⟩ := HI.out.2.next t h0 h1
        have := on_set HI.out.1 (i : Int) t (by unfold I64; omega)
        rw [e1] at this
        exact this.mono fun e w' ⟨he, ho⟩ => ⟨he, _, ho, e2⟩
      by_cases h1 : i < 1000
      · have h1z : (i : Int) < 1000 := by omega
        rw [if_pos h1] at HSet
        clear HI
        go_wp2_with (go_at_call 9; refine (HSet.out _ (by omega) (by omega)).mono ?_; rintro e w' ⟨rfl, s', hs'⟩; have HS' := hid hs'; clear hs')
        go_roundg (990 + q - (i + 1))
        case measure => omega
        case rel => exact ⟨i + 1, s', by go_num, by omega, Nat.le_refl _, HS'⟩
      · have h1z : ¬ (i : Int) < 1000 := by omega
        rw [if_neg h1] at HSet
        clear HI
        go_wp2_with (go_at_call 9; refine (HSet.out _ (by omega) (by omega)).mono ?_; rintro e w' ⟨rfl, s', hs'⟩; have HS' := hid hs'; clear hs')
        go_roundg (990 + q - (i + 1))
        case measure => omega
        case rel => exact ⟨i + 1, s', by go_num, by omega, Nat.le_refl _, HS'⟩
    · have hltz : ¬ (i : Int) < 990 + (q : Int) := by omega
      have hiq : i = 990 + q := by omega
      obtain ⟨x1, x2, x3, x4, x5, x6, x7⟩ := ManyL.ends HI.out.2 HI.out.1.keys (K : Int) (T : Int) (by omega) (by rw [hiq, ← HA.out]; omega) (by omega) (by omega)
      have hlen0 := HI.out.2.len
      rw [hiq, ← HA.out] at x3 x6 hlen0
      have hKI : I64 (K : Int) := by unfold I64; omega
      have C1 : Hid (Calls Try.prog 18 #[.pointer (some ⟨a, 0, none⟩)] wr fun e w' => e = .returned (.int .i64 (A : Int)) ∧ w' = wr) := by
        have := on_len HI.out.1; rwa [hlen0] at this
      have C2 : Hid (Calls Try.prog 9 #[.pointer (some ⟨a, 0, none⟩), .int .i64 (K : Int), .int .i64 (T : Int)] wr fun e w' => e = .returned (.int .i64 0) ∧ On w w' a (setL s K T)) := by
        have := on_set HI.out.1 (K : Int) (T : Int) hKI; rwa [x1] at this
      have C3 : Hid (∀ wx, On w wx a (setL s K T) → Calls Try.prog 16 #[.pointer (some ⟨a, 0, none⟩), .int .i64 (K : Int)] wx fun e w' => e = .returned (.int .i64 (T : Int)) ∧ w' = wx) := fun wx hx => by
        have := on_at hx (K : Int) hKI; rwa [x2] at this
      have C4 : Hid (∀ wx, On w wx a (setL s K T) → Calls Try.prog 18 #[.pointer (some ⟨a, 0, none⟩)] wx fun e w' => e = .returned (.int .i64 (A : Int)) ∧ w' = wx) := fun wx hx => by
        have := on_len hx; rwa [x3] at this
      have C5 : Hid (∀ wx, On w wx a (setL s K T) → Calls Try.prog 11 #[.pointer (some ⟨a, 0, none⟩), .int .i64 (K : Int)] wx fun e w' => e = .returned (.int .i64 0) ∧ On w w' a (del (setL s K T) K)) := fun wx hx => by
        have := on_cancel hx (K : Int) hKI; rwa [x4] at this
      have C6 : Hid (∀ wx, On w wx a (del (setL s K T) K) → Calls Try.prog 9 #[.pointer (some ⟨a, 0, none⟩), .int .i64 (-1), .int .i64 (T : Int)] wx fun e w' => e = .returned (.int .i64 0) ∧ On w w' a (setL (del (setL s K T) K) (-1) T)) := fun wx hx => by
        have := on_set hx (-1) (T : Int) (by unfold I64; omega); rwa [x5] at this
      have C7 : Hid (∀ wx, On w wx a (setL (del (setL s K T) K) (-1) T) → Calls Try.prog 18 #[.pointer (some ⟨a, 0, none⟩)] wx fun e w' => e = .returned (.int .i64 (A : Int)) ∧ w' = wx) := fun wx hx => by
        have := on_len hx; rwa [x6] at this
      have C8 : Hid (∀ wx, On w wx a (setL (del (setL s K T) K) (-1) T) → Calls Try.prog 14 #[.pointer (some ⟨a, 0, none⟩), .int .i64 1000000000] wx fun e w' => ∃ oa cap, e = .returned (.slice oa A cap) ∧ Below w.heap.size w w') := fun wx hx => by
        have := on_due hx 1000000000
        rw [x7, x6] at this
        exact this.mono fun e w' ⟨oa, cap, he, _, ho⟩ => ⟨oa, cap, he, ho.below⟩
      have hAA := HA.out
      clear x1 x2 x3 x4 x5 x6 x7 hlen0 HI HA hKI hiq hK hA1 hslen hAz
      by_cases q1 : q < 10
      · have e : (A : Int) = 990 + (q : Int) := by omega
        have q1z : 990 + (q : Int) < 1000 := by omega
        rw [e] at C1 C4 C7 HP3
        clear hAA
        go_wp2_with (first
          | (go_at_call 8; refine (HP3.out _).mono ?_; rintro e w3 ⟨rfl, h⟩; subst h; clear HP3)
          | (go_at_call 18; refine C1.out.mono ?_; rintro e w3 ⟨rfl, h⟩; subst h; clear C1)
          | (go_at_call 9; refine C2.out.mono ?_; rintro e w4 ⟨rfl, h⟩; have H4 := hid h; clear C2 h)
          | (go_at_call 16; refine (C3.out _ H4.out).mono ?_; rintro e w5 ⟨rfl, h⟩; subst h; clear C3)
          | (go_at_call 18; refine (C4.out _ H4.out).mono ?_; rintro e w5 ⟨rfl, h⟩; subst h; clear C4)
          | (go_at_call 11; refine (C5.out _ H4.out).mono ?_; rintro e w6 ⟨rfl, h⟩; have H6 := hid h; clear C5 h H4)
          | (go_at_call 9; refine (C6.out _ H6.out).mono ?_; rintro e w7 ⟨rfl, h⟩; have H7 := hid h; clear C6 h H6)
          | (go_at_call 18; refine (C7.out _ H7.out).mono ?_; rintro e w8 ⟨rfl, h⟩; subst h; clear C7)
          | (go_at_call 14; refine (C8.out _ H7.out).mono ?_; rintro e w9 ⟨oa, cap, rfl, h⟩; have H9 := hid h; clear C8 h H7))
        go_ret
        exact ⟨rfl, H9.out⟩
      · by_cases q2 : q = 10
        · subst q2
          have e : (A : Int) = 1000 := by omega
          rw [e] at C1 C4 C7 HP3
          clear hAA
          go_wp2_with (first
            | (go_at_call 8; refine (HP3.out _).mono ?_; rintro e w3 ⟨rfl, h⟩; subst h; clear HP3)
            | (go_at_call 18; refine C1.out.mono ?_; rintro e w3 ⟨rfl, h⟩; subst h; clear C1)
            | (go_at_call 9; refine C2.out.mono ?_; rintro e w4 ⟨rfl, h⟩; have H4 := hid h; clear C2 h)
            | (go_at_call 16; refine (C3.out _ H4.out).mono ?_; rintro e w5 ⟨rfl, h⟩; subst h; clear C3)
            | (go_at_call 18; refine (C4.out _ H4.out).mono ?_; rintro e w5 ⟨rfl, h⟩; subst h; clear C4)
            | (go_at_call 11; refine (C5.out _ H4.out).mono ?_; rintro e w6 ⟨rfl, h⟩; have H6 := hid h; clear C5 h H4)
            | (go_at_call 9; refine (C6.out _ H6.out).mono ?_; rintro e w7 ⟨rfl, h⟩; have H7 := hid h; clear C6 h H6)
            | (go_at_call 18; refine (C7.out _ H7.out).mono ?_; rintro e w8 ⟨rfl, h⟩; subst h; clear C7)
            | (go_at_call 14; refine (C8.out _ H7.out).mono ?_; rintro e w9 ⟨oa, cap, rfl, h⟩; have H9 := hid h; clear C8 h H7))
          go_ret
          exact ⟨rfl, H9.out⟩
        · have e : (A : Int) = 1000 := by omega
          have q1z : (1000 : Int) < 990 + (q : Int) := by omega
          rw [e] at C1 C4 C7 HP3
          clear hAA
          go_wp2_with (first
            | (go_at_call 8; refine (HP3.out _).mono ?_; rintro e w3 ⟨rfl, h⟩; subst h; clear HP3)
            | (go_at_call 18; refine C1.out.mono ?_; rintro e w3 ⟨rfl, h⟩; subst h; clear C1)
            | (go_at_call 9; refine C2.out.mono ?_; rintro e w4 ⟨rfl, h⟩; have H4 := hid h; clear C2 h)
            | (go_at_call 16; refine (C3.out _ H4.out).mono ?_; rintro e w5 ⟨rfl, h⟩; subst h; clear C3)
            | (go_at_call 18; refine (C4.out _ H4.out).mono ?_; rintro e w5 ⟨rfl, h⟩; subst h; clear C4)
            | (go_at_call 11; refine (C5.out _ H4.out).mono ?_; rintro e w6 ⟨rfl, h⟩; have H6 := hid h; clear C5 h H4)
            | (go_at_call 9; refine (C6.out _ H6.out).mono ?_; rintro e w7 ⟨rfl, h⟩; have H7 := hid h; clear C6 h H6)
            | (go_at_call 18; refine (C7.out _ H7.out).mono ?_; rintro e w8 ⟨rfl, h⟩; subst h; clear C7)
            | (go_at_call 14; refine (C8.out _ H7.out).mono ?_; rintro e w9 ⟨oa, cap, rfl, h⟩; have H9 := hid h; clear C8 h H7))
          go_ret
          exact ⟨rfl, H9.out⟩

end Go.Proofs.Ytohbnkghenlnoaa
