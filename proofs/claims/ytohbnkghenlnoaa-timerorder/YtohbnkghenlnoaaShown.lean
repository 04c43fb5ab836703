/- pick, ints; timers on the way of a statement; the chapter's example. -/
import Derived.Test.YtohbnkghenlnoaaDue
namespace Go.Proofs.Ytohbnkghenlnoaa
open Go.RowKit Go.Maps
set_option maxRecDepth 100000
set_option linter.unusedSimpArgs false
set_option linter.unusedVariables false

def pickI (c n : Int) : Int := if c < 0 then (-(c + 1)) % n else c % n
theorem pickI_range (c n : Int) (hn : 1 ≤ n) : 0 ≤ pickI c n ∧ pickI c n < n := by
  unfold pickI
  split
  · exact ⟨Int.emod_nonneg _ (by omega), Int.emod_lt_of_pos _ (by omega)⟩
  · exact ⟨Int.emod_nonneg _ (by omega), Int.emod_lt_of_pos _ (by omega)⟩

set_option maxHeartbeats 400000 in
theorem pick_any (c n : Int) (w : World) (h : I64 c) (hn : 1 ≤ n) (hn2 : n ≤ 1000000001) :
    Calls Try.prog 8 #[.int .i64 c, .int .i64 n] w fun e w' => e = .returned (.int .i64 (pickI c n)) ∧ w' = w := by
  obtain ⟨h1, h2⟩ := h
  by_cases hc : c < 0
  · go_enter Try.func8, Try.ntmps8
    go_wp2
    go_ret
    have e1 : -(c + 1).tmod n = (-(c + 1)).tmod n := (Int.neg_tmod _ _).symm
    have e2 : (-(c + 1)).tmod n = (-(c + 1)) % n := Int.tmod_eq_emod_of_nonneg (by omega)
    refine ⟨ret_int ?_, rfl⟩
    unfold pickI
    rw [if_pos hc, e1, e2]
  · go_enter Try.func8, Try.ntmps8
    go_wp2
    go_ret
    refine ⟨ret_int ?_, rfl⟩
    unfold pickI
    rw [if_neg (by omega)]

def cellsI (xs : List Int) : List Value := xs.map fun x => .int .i64 x
theorem keyCells_eq (s : List Tm) : keyCells s = cellsI (s.map (·.key)) := by simp [keyCells, cellsI]

/-- A slice of ints in memory, wherever. -/
structure IntsAt (w : World) (v : Value) (xs : List Int) : Prop where
  shape : ∃ oa cap, v = .slice oa xs.length cap ∧ (0 < xs.length → ∃ b off, oa = some ⟨b, off, none⟩ ∧ ∀ (i : Nat) (x : Int), xs[i]? = some x → w.cell? ⟨b, off + i, none⟩ = some (.int .i64 x))

theorem IntsAt.of_row {w : World} {B n : Nat} {v : Value} {xs : List Int} (h : w.ownsRow B 3 1 v n (cellsI xs)) (hn : n = xs.length) : IntsAt w v xs := by
  subst hn
  rcases h.2 with ⟨e, h0⟩ | ⟨b, cap, cur, e, hb, hg, h1, h2, h3, h4⟩
  · exact ⟨none, 0, by rw [e, h0], fun h => by omega⟩
  · refine ⟨some ⟨b, 0, none⟩, cap, e, fun _ => ⟨b, 0, rfl, fun i x hx => ?_⟩⟩
    subst e
    have hi := (List.getElem?_eq_some_iff.1 hx).1
    have := h.cellAt i (by omega)
    rw [Nat.zero_add, this]
    simp [cellsI, hx]

theorem IntsAt.kept {w w1 : World} {v : Value} {xs : List Int} (h : IntsAt w v xs) (hb : ∀ a : Addr, ∀ u, w.cell? a = some u → w1.cell? a = some u) : IntsAt w1 v xs := by
  obtain ⟨oa, cap, e, h2⟩ := h
  exact ⟨oa, cap, e, fun h0 => by
    obtain ⟨b, off, e2, h3⟩ := h2 h0
    exact ⟨b, off, e2, fun i x hx => hb _ _ (h3 i x hx)⟩⟩

set_option maxHeartbeats 800000 in
theorem ints_any {w : World} {v u : Value} {xs ys : List Int} (hv : IntsAt w v xs) (hu : IntsAt w u ys) (hx : xs.length ≤ 1000) :
    Calls Try.prog 13 #[v, u] w fun e w' => e = .returned (.bool (decide (xs = ys))) ∧ ∃ n, w' = w.drewN n := by
  obtain ⟨oa, cap, rfl, hva⟩ := hv
  obtain ⟨ob, cap2, rfl, hua⟩ := hu
  by_cases hl : xs.length = ys.length
  · have hlz : ((xs.length : Nat) : Int) = ((ys.length : Nat) : Int) := by omega
    have HV := hid hva
    have HU := hid hua
    clear hva hua
    rw [← hl] at HU ⊢
    go_enter Try.func13, Try.ntmps13
    go_wp2
    go_loopw [5] (fun i0 wr => ∃ k : Nat, k ≤ xs.length ∧ i0 = .int .i64 (k : Int) ∧ (∃ n, wr = w.drewN n) ∧ Hid (∀ j, j < k → xs[j]? = ys[j]?)) (fun i0 _ => xs.length - (intOf i0).toNat)
    case atStart => exact ⟨0, Nat.zero_le _, rfl, ⟨0, rfl⟩, fun j hj => by omega⟩
    case round =>
      obtain ⟨k, hk, rfl, ⟨n, rfl⟩, HI⟩ := hrel
      by_cases hlt : k < xs.length
      · have hkz : (k : Int) < (xs.length : Int) := by omega
        obtain ⟨b, off, rfl, hc1⟩ := HV.out (by omega)
        obtain ⟨b2, off2, rfl, hc2⟩ := HU.out (by omega)
        have d1 := hc1 k _ (List.getElem?_eq_getElem hlt)
        have d2 := hc2 k _ (List.getElem?_eq_getElem (show k < ys.length by omega))
        by_cases he : xs[k] = ys[k]
        · have HN : Hid (∀ j, j < k + 1 → xs[j]? = ys[j]?) := fun j hj => by
            by_cases e : j = k
            · subst e; rw [List.getElem?_eq_getElem hlt, List.getElem?_eq_getElem (show j < ys.length by omega), he]
            · exact HI.out j (by omega)
          rw [← he] at d2
          generalize xs[k] = x at *
          clear he HI hc1 hc2
          go_wp2_with fail
          go_quiet (fail)
          go_wp2_with fail
          go_roundw
          case rel => exact ⟨k + 1, by omega, by go_num, ⟨_, rfl⟩, HN⟩
          case measure => simp [intOf]; omega
        · have HF : Hid (decide (xs = ys) = false) := by
            show _ = _
            rw [decide_eq_false_iff_not]
            intro e
            subst e
            exact he rfl
          clear HI hc1 hc2
          generalize hxk : xs[k] = x at *
          generalize hyk : ys[k] = y at *
          clear hxk hyk
          go_wp2_with fail
          go_quiet (fail)
          go_wp2_with fail
          go_ret
          exact ⟨ret_bool HF.out.symm, n + nq, World.drewN_drewN _ _ _⟩
      · have hkz : ¬ (k : Int) < (xs.length : Int) := by omega
        have HF : Hid (decide (xs = ys) = true) := by
          show _ = _
          rw [decide_eq_true_iff]
          apply List.ext_getElem?
          intro j
          by_cases hj : j < k
          · exact HI.out j hj
          · rw [List.getElem?_eq_none (by omega), List.getElem?_eq_none (by omega)]
        go_wp2
        go_ret
        exact ⟨ret_bool HF.out.symm, _, rfl⟩
  · have hlz : ¬ ((xs.length : Nat) : Int) = ((ys.length : Nat) : Int) := by omega
    have HF : Hid (decide (xs = ys) = false) := by
      show _ = _
      rw [decide_eq_false_iff_not]
      intro e
      exact hl (by rw [e])
    clear hva hua
    go_enter Try.func13, Try.ntmps13
    go_wp2
    go_ret
    exact ⟨ret_bool HF.out.symm, 0, rfl⟩

/-- Timers of a call's own, on its way. -/
def On (w0 w : World) (a : Nat) (s : List Tm) : Prop := ∃ S, TA w S a s ∧ (∀ k, S k → w0.heap.size ≤ k) ∧ Below w0.heap.size w0 w

theorem On.below {w0 w : World} {a : Nat} {s : List Tm} (h : On w0 w a s) : Below w0.heap.size w0 w := by obtain ⟨S, _, _, h⟩ := h; exact h
theorem On.keys {w0 w : World} {a : Nat} {s : List Tm} (h : On w0 w a s) : Keys s := by obtain ⟨S, h, _, _⟩ := h; exact h.keys
theorem On.sorted {w0 w : World} {a : Nat} {s : List Tm} (h : On w0 w a s) : Sorted s := by obtain ⟨S, h, _, _⟩ := h; exact h.sorted
theorem On.len {w0 w : World} {a : Nat} {s : List Tm} (h : On w0 w a s) : s.length ≤ 1000 := by obtain ⟨S, h, _, _⟩ := h; exact h.len
theorem On.under {w0 w w1 : World} {a : Nat} {s : List Tm} (h : On w0 w a s) (hb : Below w.heap.size w w1) : On w0 w1 a s := by
  obtain ⟨S, h, hS, hb0⟩ := h
  exact ⟨S, h.under hb, hS, hb0.trans (hb.mono hb0.size)⟩
theorem below_keeps {S : Nat → Prop} {w0 w w1 : World} (h : Below w0.heap.size w0 w) (hS : ∀ k, S k → w0.heap.size ≤ k) (hk : Keeps S w w1) : Below w0.heap.size w0 w1 :=
  ⟨hk.os.trans h.os, hk.tape.trans h.tape, hk.output.trans h.output, Nat.le_trans h.size hk.size, fun k hlt => (hk.block k (Nat.lt_of_lt_of_le hlt h.size) (fun hs => by have := hS k hs; omega)).trans (h.block k hlt)⟩
theorem TAfter.on {S : Nat → Prop} {w0 w w1 : World} {a : Nat} {s : List Tm} (h : TAfter S w w1 a s) (hS : ∀ k, S k → w0.heap.size ≤ k) (hb : Below w0.heap.size w0 w) : On w0 w1 a s := by
  obtain ⟨S', h1, h2, h3, h4⟩ := h
  exact ⟨S', h1, fun k hk => (h2 k hk).elim (hS k) (fun h => Nat.le_trans hb.size h), below_keeps hb hS h4⟩

theorem on_new {w0 w : World} (hb : Below w0.heap.size w0 w) : Calls Try.prog 7 #[] w fun e w' => e = .returned (.pointer (some ⟨w.heap.size, 0, none⟩)) ∧ On w0 w' w.heap.size [] :=
  (new_any w).mono fun e w' ⟨he, ht, hb2⟩ => ⟨he, _, ht, fun k hk => by subst hk; exact hb.size, hb.trans (hb2.mono hb.size)⟩
theorem on_set {w0 w : World} {a : Nat} {s : List Tm} (h : On w0 w a s) (k t : Int) (hk : I64 k) :
    Calls Try.prog 9 #[.pointer (some ⟨a, 0, none⟩), .int .i64 k, .int .i64 t] w fun e w' => e = .returned (.int .i64 (setE s k t)) ∧ On w0 w' a (setL s k t) := by
  obtain ⟨S, h, hS, hb⟩ := h
  exact (set_any h k t hk).mono fun e w' ⟨he, h2⟩ => ⟨he, h2.on hS hb⟩
theorem on_cancel {w0 w : World} {a : Nat} {s : List Tm} (h : On w0 w a s) (k : Int) (hk : I64 k) :
    Calls Try.prog 11 #[.pointer (some ⟨a, 0, none⟩), .int .i64 k] w fun e w' => e = .returned (.int .i64 (cancE s k)) ∧ On w0 w' a (del s k) := by
  obtain ⟨S, h, hS, hb⟩ := h
  exact (cancel_any h k hk).mono fun e w' ⟨he, h2⟩ => ⟨he, h2.on hS hb⟩
theorem on_at {w0 w : World} {a : Nat} {s : List Tm} (h : On w0 w a s) (k : Int) (hk : I64 k) :
    Calls Try.prog 16 #[.pointer (some ⟨a, 0, none⟩), .int .i64 k] w fun e w' => e = .returned (.int .i64 (atL s k)) ∧ w' = w := by
  obtain ⟨S, h, hS, hb⟩ := h
  exact at_any h k hk
theorem on_len {w0 w : World} {a : Nat} {s : List Tm} (h : On w0 w a s) : Calls Try.prog 18 #[.pointer (some ⟨a, 0, none⟩)] w fun e w' => e = .returned (.int .i64 (s.length : Int)) ∧ w' = w := by
  obtain ⟨S, h, hS, hb⟩ := h
  exact tlen_any h
theorem on_next {w0 w : World} {a : Nat} {s : List Tm} (h : On w0 w a s) : Calls Try.prog 19 #[.pointer (some ⟨a, 0, none⟩)] w fun e w' => e = .returned (.int .i64 (nextL s)) ∧ w' = w := by
  obtain ⟨S, h, hS, hb⟩ := h
  exact next_any h
theorem on_due {w0 w : World} {a : Nat} {s : List Tm} (h : On w0 w a s) (now : Int) :
    Calls Try.prog 14 #[.pointer (some ⟨a, 0, none⟩), .int .i64 now] w fun e w' => ∃ oa cap, e = .returned (.slice oa (dueL s now).length cap) ∧ w'.ownsRow w.heap.size 3 1 (.slice oa (dueL s now).length cap) (dueL s now).length (cellsI ((dueL s now).map (·.key))) ∧ On w0 w' a (restL s now) := by
  obtain ⟨S, h, hS, hb⟩ := h
  refine (due_any h now).mono ?_
  rintro e w' ⟨v, rfl, hr, ht, hk⟩
  rw [keyCells_eq] at hr
  have hs := IntsAt.of_row hr (by simp)
  obtain ⟨oa, cap, e, _⟩ := hs
  rw [List.length_map] at e
  subst e
  exact ⟨oa, cap, rfl, hr, S, ht, hS, below_keeps hb hS hk⟩

/-- A row and a literal behind it, asked whether they are one. -/
theorem ints_lit {w1 : World} {B : Nat} {v : Value} {xs : List Int} {cs : Array Value} (ys : List Int) (hr : w1.ownsRow B 3 1 v xs.length (cellsI xs)) (hx : xs.length ≤ 1000) (hcs : cs.toList = cellsI ys) (b : Nat) (hb : b = w1.heap.size) :
    Calls Try.prog 13 #[v, .slice (some ⟨b, 0, none⟩) ys.length ys.length] (w1.alloc (.cells cs 3)) fun e w' => e = .returned (.bool (decide (xs = ys))) ∧ Below w1.heap.size w1 w' := by
  refine (ints_any (w := w1.alloc (.cells cs 3)) (IntsAt.kept (IntsAt.of_row hr rfl) (fun a u h => ?_)) (ys := ys) ⟨_, _, rfl, fun _ => ⟨b, 0, rfl, fun i x hx => ?_⟩⟩ hx).mono fun e w' ⟨he, n, hw⟩ => ⟨he, ?_⟩
  · have hlt : a.block < w1.heap.size := by
      unfold World.cell? at h
      split at h
      · rename_i hh; exact (Array.getElem?_eq_some_iff.1 hh).1
      · cases h
    exact ((Below.refl w1.heap.size w1).alloc (Nat.le_refl _) (.cells cs 3)).cell hlt |>.trans h
  · rw [Nat.zero_add]
    refine cell_new hb ?_
    have : cs.toList[i]? = some (.int .i64 x) := by rw [hcs]; simp [cellsI, hx]
    simpa using this
  · rw [hw]
    exact below_drewN ((Below.refl _ _).alloc (Nat.le_refl _) _) _

theorem sh1 : setL [] 7 5 = [⟨7, 5⟩] ∧ setE [] 7 5 = 0 := ⟨rfl, rfl⟩
theorem sh2 : setL [⟨7, 5⟩] 3 5 = [⟨3, 5⟩, ⟨7, 5⟩] ∧ setE [⟨7, 5⟩] 3 5 = 0 := ⟨rfl, rfl⟩
theorem sh3 : setL [⟨3, 5⟩, ⟨7, 5⟩] 9 2 = [⟨9, 2⟩, ⟨3, 5⟩, ⟨7, 5⟩] ∧ setE [⟨3, 5⟩, ⟨7, 5⟩] 9 2 = 0 := ⟨rfl, rfl⟩

set_option maxHeartbeats 1600000 in
/-- The chapter's example comes out as it says. -/
theorem shown_any (w : World) : Calls Try.prog 6 #[] w fun e w' => e = .returned (.bool true) ∧ Below w.heap.size w w' := by
  have hi : ∀ k : Int, 0 ≤ k → k ≤ 100 → I64 k := fun k h1 h2 => by unfold I64; omega
  have C0 := hid (on_new (Below.refl w.heap.size w))
  have C1 : Hid (∀ wx, On w wx w.heap.size [] → Calls Try.prog 9 #[.pointer (some ⟨w.heap.size, 0, none⟩), .int .i64 7, .int .i64 5] wx fun e w' => e = .returned (.int .i64 0) ∧ On w w' w.heap.size [⟨7, 5⟩]) := fun wx hx => by
    have := on_set hx 7 5 (hi 7 (by decide) (by decide)); rwa [sh1.1, sh1.2] at this
  have C2 : Hid (∀ wx, On w wx w.heap.size [⟨7, 5⟩] → Calls Try.prog 9 #[.pointer (some ⟨w.heap.size, 0, none⟩), .int .i64 3, .int .i64 5] wx fun e w' => e = .returned (.int .i64 0) ∧ On w w' w.heap.size [⟨3, 5⟩, ⟨7, 5⟩]) := fun wx hx => by
    have := on_set hx 3 5 (hi 3 (by decide) (by decide)); rwa [sh2.1, sh2.2] at this
  have C3 : Hid (∀ wx, On w wx w.heap.size [⟨3, 5⟩, ⟨7, 5⟩] → Calls Try.prog 9 #[.pointer (some ⟨w.heap.size, 0, none⟩), .int .i64 9, .int .i64 2] wx fun e w' => e = .returned (.int .i64 0) ∧ On w w' w.heap.size [⟨9, 2⟩, ⟨3, 5⟩, ⟨7, 5⟩]) := fun wx hx => by
    have := on_set hx 9 2 (hi 9 (by decide) (by decide)); rwa [sh3.1, sh3.2] at this
  have C4 : Hid (∀ wx, On w wx w.heap.size [⟨9, 2⟩, ⟨3, 5⟩, ⟨7, 5⟩] → Calls Try.prog 19 #[.pointer (some ⟨w.heap.size, 0, none⟩)] wx fun e w' => e = .returned (.int .i64 2) ∧ w' = wx) := fun wx hx => on_next hx
  have C5 : Hid (∀ wx, On w wx w.heap.size [⟨9, 2⟩, ⟨3, 5⟩, ⟨7, 5⟩] → Calls Try.prog 14 #[.pointer (some ⟨w.heap.size, 0, none⟩), .int .i64 4] wx fun e w' => ∃ oa cap, e = .returned (.slice oa 1 cap) ∧
      Hid (Calls Try.prog 13 #[.slice oa 1 cap, .slice (some ⟨w'.heap.size, 0, none⟩) 1 1] (w'.alloc (.cells #[.int .i64 9] 3)) fun e w2 => e = .returned (.bool true) ∧ On w w2 w.heap.size [⟨3, 5⟩, ⟨7, 5⟩])) := fun wx hx => by
    refine (on_due hx 4).mono ?_
    rintro e w' ⟨oa, cap, rfl, hr, ho⟩
    exact ⟨oa, cap, rfl, hid ((ints_lit [9] hr (by decide) rfl _ rfl).mono fun e w2 ⟨he, hb⟩ => ⟨he, ho.under hb⟩)⟩
  have C6 : Hid (∀ wx, On w wx w.heap.size [⟨3, 5⟩, ⟨7, 5⟩] → Calls Try.prog 14 #[.pointer (some ⟨w.heap.size, 0, none⟩), .int .i64 5] wx fun e w' => ∃ oa cap, e = .returned (.slice oa 2 cap) ∧
      Hid (Calls Try.prog 13 #[.slice oa 2 cap, .slice (some ⟨w'.heap.size, 0, none⟩) 2 2] (w'.alloc (.cells #[.int .i64 3, .int .i64 7] 3)) fun e w2 => e = .returned (.bool true) ∧ On w w2 w.heap.size [])) := fun wx hx => by
    refine (on_due hx 5).mono ?_
    rintro e w' ⟨oa, cap, rfl, hr, ho⟩
    exact ⟨oa, cap, rfl, hid ((ints_lit [3, 7] hr (by decide) rfl _ rfl).mono fun e w2 ⟨he, hb⟩ => ⟨he, ho.under hb⟩)⟩
  have C7 : Hid (∀ wx, On w wx w.heap.size [] → Calls Try.prog 18 #[.pointer (some ⟨w.heap.size, 0, none⟩)] wx fun e w' => e = .returned (.int .i64 0) ∧ w' = wx) := fun wx hx => on_len hx
  have C8 : Hid (∀ wx, On w wx w.heap.size [] → Calls Try.prog 19 #[.pointer (some ⟨w.heap.size, 0, none⟩)] wx fun e w' => e = .returned (.int .i64 (-1)) ∧ w' = wx) := fun wx hx => on_next hx
  have C9 : Hid (∀ wx, On w wx w.heap.size [] → Calls Try.prog 11 #[.pointer (some ⟨w.heap.size, 0, none⟩), .int .i64 1] wx fun e w' => e = .returned (.int .i64 8) ∧ On w w' w.heap.size []) := fun wx hx => on_cancel hx 1 (hi 1 (by decide) (by decide))
  clear hi
  go_enter Try.func6, Try.ntmps6
  go_wp2_with (first
    | (go_at_call 7; refine C0.out.mono ?_; rintro e w1 ⟨rfl, h⟩; have H1 := hid h; clear h C0)
    | (go_at_call 9; refine (C1.out _ H1.out).mono ?_; rintro e w2 ⟨rfl, h⟩; have H2 := hid h; clear h C1 H1)
    | (go_at_call 9; refine (C2.out _ H2.out).mono ?_; rintro e w3 ⟨rfl, h⟩; have H3 := hid h; clear h C2 H2)
    | (go_at_call 9; refine (C3.out _ H3.out).mono ?_; rintro e w4 ⟨rfl, h⟩; have H4 := hid h; clear h C3 H3)
    | (go_at_call 19; refine (C4.out _ H4.out).mono ?_; rintro e w4' ⟨rfl, h⟩; subst h; clear C4)
    | (go_at_call 14; refine (C5.out _ H4.out).mono ?_; rintro e w5 ⟨oa, cap, rfl, H5⟩; clear C5 H4)
    | (go_at_call 13; refine H5.out.mono ?_; rintro e w6 ⟨rfl, h⟩; have H6 := hid h; clear h H5)
    | (go_at_call 14; refine (C6.out _ H6.out).mono ?_; rintro e w7 ⟨oa2, cap2, rfl, H7⟩; clear C6 H6)
    | (go_at_call 13; refine H7.out.mono ?_; rintro e w8 ⟨rfl, h⟩; have H8 := hid h; clear h H7)
    | (go_at_call 18; refine (C7.out _ H8.out).mono ?_; rintro e w9 ⟨rfl, h⟩; subst h; clear C7)
    | (go_at_call 19; refine (C8.out _ H8.out).mono ?_; rintro e w9 ⟨rfl, h⟩; subst h; clear C8)
    | (go_at_call 11; refine (C9.out _ H8.out).mono ?_; rintro e w9 ⟨rfl, h⟩; have H9 := hid h; clear h C9 H8))
  go_ret
  exact ⟨rfl, H9.out.below⟩

end Go.Proofs.Ytohbnkghenlnoaa
