/- TimerOrder: the walk. -/
import Derived.Test.YtohbnkghenlnoaaOb
namespace Go.Proofs.Ytohbnkghenlnoaa
open Go.RowKit Go.Maps
set_option maxRecDepth 100000
set_option linter.unusedSimpArgs false
set_option linter.unusedVariables false

set_option maxHeartbeats 8000000 in
theorem ord_a (m : Nat) (so : Option Addr) (cap0 : Nat) (ops : List OpV) (po : Option Addr) (cap1 : Nat) (steps : List Int) (w : World) (hops : OpsAt w so ops) (hlen : ops.length ≤ maxLen) (hsteps : RowAt w po steps) (hlen2 : steps.length ≤ maxLen) (hm1 : m ≤ ops.length) (hm3 : m ≤ 300) (hmm : m = ops.length ∨ m = 300) :
    Calls Try.prog 5 #[.slice so ops.length cap0, .slice po steps.length cap1] w fun e w' => e = .returned (.bool true) ∧ Below w.heap.size w w' := by
  have HSh := hid (shown_any w)
  have HC := hid (And.intro hops (And.intro hlen (And.intro hsteps hlen2)))
  have hlen' : ops.length ≤ 9223372036854775807 := by unfold maxLen at hlen; exact hlen
  have HOps : Hid (∀ i (h : i < ops.length), ops[i].ok ∧ ∃ b off, so = some ⟨b, off, none⟩ ∧ b < w.heap.size ∧ ∀ W, Below w.heap.size w W → OpCells W b (off + i * 3) ops[i]) := fun i hi => by
    rcases hops with h | ⟨b, off, e, hb, hc⟩
    · rw [h] at hi; simp at hi
    · exact ⟨(hc i hi).1, b, off, e, hb, fun W hW => ⟨(hW.cell hb).trans (hc i hi).2.1, (hW.cell hb).trans (hc i hi).2.2.1, (hW.cell hb).trans (hc i hi).2.2.2⟩⟩
  have HNew : Hid (∀ w1, Below w.heap.size w w1 → Calls Try.prog 7 #[] w1 fun e w' => ∃ a, e = .returned (.pointer (some ⟨a, 0, none⟩)) ∧ On w w' a []) := fun w1 hb =>
    (on_new hb).mono fun e w' ⟨he, ho⟩ => ⟨_, he, ho⟩
  clear hops hlen hsteps hlen2
  go_enter Try.func5, Try.ntmps5
  go_wp2_with (first
    | (go_at_call 6; refine HSh.out.mono ?_; rintro e w1 ⟨rfl, hb⟩; have HB := hid hb; clear hb HSh)
    | (go_at_call 7; refine (HNew.out _ HB.out).mono ?_; rintro e w2 ⟨a, rfl, ho⟩; have HO := hid ho; clear ho HNew HB))
  go_loopg [7, 8] m (fun kx s7 si wr => ∃ (i : Nat) (s : List Tm), i ≤ m ∧ m - i ≤ kx ∧ s7 = .int .i64 (s.length : Int) ∧ si = .int .i64 (i : Int) ∧ Hid (On w wr a s ∧ Ord ops s i))
  case atStart => exact ⟨0, [], Nat.zero_le _, by omega, rfl, rfl, HO.out, Ord.zero _⟩
  case round =>
    obtain ⟨i, s, hi, hkx, rfl, rfl, HI⟩ := hrel
    have hsl := HI.out.2.len
    by_cases hgo : i < ops.length ∧ i < 300
    · have hltz : (i : Int) < (ops.length : Int) := by omega
      have hlt3 : (i : Int) < 300 := by omega
      obtain ⟨hok, b, off, rfl, hbl, hcell⟩ := HOps.out i hgo.1
      obtain ⟨_, p1, p2⟩ := hcell _ HI.out.1.below
      obtain ⟨q, hq, HPk⟩ : ∃ q : Nat, q ≤ 999 ∧ Hid (∀ wx, Calls Try.prog 8 #[.int .i64 ops[i].tick, .int .i64 1000] wx fun e w' => e = .returned (.int .i64 (q : Int)) ∧ w' = wx) := by
        have hr := pickI_range ops[i].tick 1000 (by decide)
        refine ⟨(pickI ops[i].tick 1000).toNat, by omega, fun wx => ?_⟩
        have := pick_any ops[i].tick 1000 wx hok.2.2 (by decide) (by decide)
        rwa [show ((pickI ops[i].tick 1000).toNat : Int) = pickI ops[i].tick 1000 by omega]
      obtain ⟨hE, hOrd, hcase⟩ := HI.out.2.next HI.out.1.keys hgo.1 hgo.2 (q : Int) (by omega) (by omega)
      have HAt := hid (on_at HI.out.1 ops[i].key hok.2.1)
      have HSet : Hid (∀ n, Calls Try.prog 9 #[.pointer (some ⟨a, 0, none⟩), .int .i64 ops[i].key, .int .i64 (q : Int)] (wr.drewN n) fun e w' => e = .returned (.int .i64 0) ∧ On w w' a (setL s ops[i].key q) ∧ Ord ops (setL s ops[i].key q) (i + 1)) := fun n => by
        have := on_set (HI.out.1.under (below_drewN (Below.refl _ _) n)) ops[i].key (q : Int) hok.2.1
        rw [hE] at this
        exact this.mono fun e w' ⟨he, ho⟩ => ⟨he, ho, hOrd⟩
      generalize setL s ops[i].key q = s' at *
      generalize atL s ops[i].key = at0 at *
      generalize ops[i] = x at *
      clear hcell HI hE hOrd HOps HO
      rcases hcase with ⟨hc1, hc2⟩ | ⟨hc1, hc2⟩
      · have hc2z : (s'.length : Int) = (s.length : Int) + 1 := by omega
        go_wp2_with (first | (go_at_call 16; refine HAt.out.mono ?_; rintro e w3 ⟨rfl, h⟩; subst h; clear HAt))
        refine region_tail 12 (by kernel_rfl) (by kernel_rfl) ?_
        simp only [List.take_succ_cons, List.take_zero, List.drop_succ_cons, List.drop_zero]
        repeat (go_big_quiet_step ((go_at_call 8; exact (HPk.out _).mono fun e w' h => ⟨h.1, _, h.2⟩)))
        refine wpQuiet_nil ?_
        rintro _ ⟨nq, rfl⟩
        go_wp2_with (first | (go_at_call 9; refine (HSet.out _).mono ?_; rintro e w4 ⟨rfl, h4⟩; have H4 := hid h4; clear h4))
        go_roundg (m - (i + 1))
        case measure => omega
        case rel => exact ⟨i + 1, s', by omega, Nat.le_refl _, by rw [hc2z], by go_num, H4⟩
      · have hc1z : ¬ at0 < 0 := by omega
        have hc2z : (s'.length : Int) = (s.length : Int) := by omega
        go_wp2_with (first | (go_at_call 16; refine HAt.out.mono ?_; rintro e w3 ⟨rfl, h⟩; subst h; clear HAt))
        refine region_tail 12 (by kernel_rfl) (by kernel_rfl) ?_
        simp only [List.take_succ_cons, List.take_zero, List.drop_succ_cons, List.drop_zero]
        repeat (go_big_quiet_step ((go_at_call 8; exact (HPk.out _).mono fun e w' h => ⟨h.1, _, h.2⟩)))
        refine wpQuiet_nil ?_
        rintro _ ⟨nq, rfl⟩
        go_wp2_with (first | (go_at_call 9; refine (HSet.out _).mono ?_; rintro e w4 ⟨rfl, h4⟩; have H4 := hid h4; clear h4))
        go_roundg (m - (i + 1))
        case measure => omega
        case rel => exact ⟨i + 1, s', by omega, Nat.le_refl _, by rw [hc2z], by go_num, H4⟩
    · obtain rfl : i = m := by omega
      obtain ⟨S, hTA0, hS00, hB10⟩ := HI.out.1
      have hTA := hid hTA0
      have hS0 := hid hS00
      have hB1 := hid hB10
      clear hTA0 hS00 hB10
      by_cases hlt : i < ops.length
      · have hjz : (i : Int) < (ops.length : Int) := by omega
        have hj3 : ¬ (i : Int) < 300 := by omega
        have HMM := hid hmm
        clear hmm
        rename (∀ (a : Act) (w : World), Code.wp Try.prog _ _ a w → _) => hK3
        have HK3 := hid hK3
        clear hK3
        go_wp2_with fail
        refine HK3.out _ _ ?_
        exact ord_b HC.out.1 HC.out.2.1 HC.out.2.2.1 HC.out.2.2.2 hm1 hm3 HMM.out hTA.out hS0.out hB1.out HI.out.2

      · have hjz : ¬ ((i : Int) < (ops.length : Int)) := by omega
        have HMM := hid hmm
        clear hmm
        rename (∀ (a : Act) (w : World), Code.wp Try.prog _ _ a w → _) => hK3
        have HK3 := hid hK3
        clear hK3
        go_wp2_with fail
        refine HK3.out _ _ ?_
        exact ord_b HC.out.1 HC.out.2.1 HC.out.2.2.1 HC.out.2.2.2 hm1 hm3 HMM.out hTA.out hS0.out hB1.out HI.out.2

theorem order_walk (so : Option Addr) (cap0 : Nat) (ops : List OpV) (po : Option Addr) (cap1 : Nat) (steps : List Int) (w : World) (hops : OpsAt w so ops) (hlen : ops.length ≤ maxLen) (hsteps : RowAt w po steps) (hlen2 : steps.length ≤ maxLen) :
    Calls Try.prog 5 #[.slice so ops.length cap0, .slice po steps.length cap1] w fun e w' => e = .returned (.bool true) ∧ Below w.heap.size w w' := by
  by_cases h : ops.length ≤ 300
  · exact ord_a ops.length so cap0 ops po cap1 steps w hops hlen hsteps hlen2 (Nat.le_refl _) h (.inl rfl)
  · exact ord_a 300 so cap0 ops po cap1 steps w hops hlen hsteps hlen2 (by omega) (Nat.le_refl _) (.inr rfl)
end Go.Proofs.Ytohbnkghenlnoaa
