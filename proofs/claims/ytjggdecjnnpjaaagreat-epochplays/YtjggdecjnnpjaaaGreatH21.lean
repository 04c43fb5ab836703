/- The document's reading of a file. -/
import Derived.Test.YtjggdecjnnpjaaaGreatH20
import Derived.Test.YtjggdecjnnpjaaaGreatH13
import Derived.Deep.CutRange
import Derived.Deep.CutBlock
namespace Go.Proofs.YtjggdecjnnpjaaaGreat
open Go.RowKit Go.Maps Go.Sort
set_option maxRecDepth 100000
set_option linter.unusedSimpArgs false
set_option linter.unusedVariables false

/-- What the document's Read answers. -/
def DocPost (w : World) (b : List UInt8) (e : Ending) (w' : World) : Prop :=
  ((eload b).2 = 0 → ∃ rv, e = .returned (.tuple #[rv, .int .i64 0]) ∧ AL w' rv (eload b).1 ∧ ∀ k, rv.ownBlock = some k → w.heap.size ≤ k ∧ k < w'.heap.size) ∧ ((eload b).2 ≠ 0 → e = .returned (.tuple #[.slice none 0 0, .int .i64 (eload b).2])) ∧ Below w.heap.size w w'
theorem doc_err {w w' : World} {b : List UInt8} {n : Int} (h : eload b = ([], n)) (hn : n ≠ 0) (hb : Below w.heap.size w w') : DocPost w b (.returned (.tuple #[.slice none 0 0, .int .i64 n])) w' := by
  unfold DocPost
  rw [h]
  exact ⟨fun h0 => absurd h0 hn, fun _ => rfl, hb⟩
theorem doc_ok {w w' : World} {b : List UInt8} {l : List (Int × Int)} {rv : Value} (h : eload b = (l, 0)) (ha : AL w' rv l) (hf : ∀ k, rv.ownBlock = some k → w.heap.size ≤ k ∧ k < w'.heap.size) (hb : Below w.heap.size w w') : DocPost w b (.returned (.tuple #[rv, .int .i64 0])) w' := by
  unfold DocPost
  rw [h]
  exact ⟨fun _ => ⟨rv, rfl, ha, hf⟩, fun h0 => absurd rfl h0, hb⟩
/-- Where it stands. -/
structure RdAt (w wr : World) (p k : Nat) (s : RS) (sv : Value) : Prop where
  below : Below w.heap.size w wr
  fresh : w.heap.size ≤ p
  rf : Rf wr p (pairsS k s).2
  row : wr.ownsRow w.heap.size 51 3 sv k (flatA (pairsS k s).1)
  rise : riseB (-1) (-1) (pairsS k s).1 = true
theorem RdAt.off {w wr : World} {p k : Nat} {s : RS} {sv : Value} (h : RdAt w wr p k s sv) : sv.ownBlock ≠ some p := fun e => by
  obtain ⟨_, ⟨e0, _⟩ | ⟨g, cap', cur, e0, hb, hg, _⟩⟩ := h.row
  · rw [e0] at e; cases e
  · rw [e0] at e
    cases e
    have := h.rf.box
    rw [hg] at this
    cases this

/-- An entry was read, and lies in a block of its own. -/
structure RdX (w W : World) (p k xb : Nat) (s : RS) (sv : Value) (x1 x2 : Int) (t : RS) : Prop where
  below : Below w.heap.size w W
  fresh : w.heap.size ≤ p
  rf : Rf W p t
  row : W.ownsRow w.heap.size 51 3 sv k (flatA (pairsS k s).1)
  box : W.heap[xb]? = some (.cells #[.int .i64 x1, .int .i64 x2, .string ⟨#[]⟩] 51)
  next : pairsS (k + 1) s = ((pairsS k s).1 ++ [(x1, x2)], t)
  off : sv.ownBlock ≠ some p
theorem RdX.drewN {w W : World} {p k xb s sv x1 x2 t} (h : RdX w W p k xb s sv x1 x2 t) (n : Nat) : RdX w (W.drewN n) p k xb s sv x1 x2 t :=
  ⟨below_drewN h.below n, h.fresh, h.rf.kept rfl, ownsRow_kept h.row (fun _ _ => rfl), h.box, h.next, h.off⟩
theorem RdAt.step {w wr w5 w6 : World} {p k : Nat} {s : RS} {sv : Value} {x1 x2 : Int} {t1 t2 : RS} (h : RdAt w wr p k s sv) (hn : pairsS (k + 1) s = ((pairsS k s).1 ++ [(x1, x2)], t2)) (hg5 : wr.grownBy w5 (some p)) (hr5 : Rf w5 p t1)
    (hg6 : (w5.alloc (.cells #[.int .i64 x1, .int .i64 0, .string ⟨#[]⟩] 51)).grownBy w6 (some p)) (hr6 : Rf w6 p t2) : RdX w (w6.setCell ⟨w5.heap.size, 1, none⟩ (.int .i64 x2)) p k w5.heap.size s sv x1 x2 t2 ∧ w6.cell? ⟨w5.heap.size, 1, none⟩ = some (.int .i64 0) ∧ w6.frozen? ⟨w5.heap.size, 1, none⟩ = false := by
  have hp5 := hr5.lt
  have hs5 := hg5.size
  have hb5 : Below w.heap.size w w5 := h.below.grown hg5 h.below.size (fun j hj => by cases hj; exact h.fresh)
  have hz : (w5.alloc (.cells #[.int .i64 x1, .int .i64 0, .string ⟨#[]⟩] 51)).heap.size = w5.heap.size + 1 := by simp
  have hba := hb5.alloc hb5.size (.cells #[.int .i64 x1, .int .i64 0, .string ⟨#[]⟩] 51)
  have hb6 : Below w.heap.size w w6 := hba.grown hg6 hba.size (fun j hj => by cases hj; exact h.fresh)
  have hx6 : w6.heap[w5.heap.size]? = some (.cells #[.int .i64 x1, .int .i64 0, .string ⟨#[]⟩] 51) := by
    rw [hg6.block _ (by omega) (fun e => by cases e; omega)]
    exact heap_alloc_new w5 _
  have hrow : ∀ j, sv.ownBlock = some j → (w6.setCell ⟨w5.heap.size, 1, none⟩ (.int .i64 x2)).heap[j]? = wr.heap[j]? := fun j hj => by
    have h1 := (World.ownsRow.lt h.row j hj).2
    have h2 : j ≠ p := fun e => h.off (by rw [hj, e])
    rw [Below.heap_setCell w6 ⟨w5.heap.size, 1, none⟩ _ j (by show j ≠ w5.heap.size; omega), hg6.block j (by omega) (fun e => h2 (by cases e; rfl)), Below.heap_alloc _ _ _ (by omega), hg5.block j h1 (fun e => h2 (by cases e; rfl))]
  refine ⟨⟨hb6.setCell (by show _ ≤ w5.heap.size; exact hb5.size) _, h.fresh, hr6.kept (Below.heap_setCell w6 ⟨w5.heap.size, 1, none⟩ _ p (by show p ≠ w5.heap.size; omega)), ownsRow_kept h.row hrow, set_box hx6, hn, h.off⟩, cell_at hx6 rfl, frozen_blk hx6 1⟩
theorem RdX.push {w W w9 : World} {p k xb : Nat} {s : RS} {sv v' : Value} {x1 x2 : Int} {t : RS} (h : RdX w W p k xb s sv x1 x2 t) (hri : riseB (-1) (-1) (pairsS (k + 1) s).1 = true)
    (ho : w9.ownsRow w.heap.size 51 3 v' (k + 1) (flatA (pairsS k s).1 ++ [.int .i64 x1, .int .i64 x2, .string ⟨#[]⟩])) (hg : (W.alloc (.cells #[.int .i64 x1, .int .i64 x2, .string ⟨#[]⟩] 51)).grownBy w9 sv.ownBlock) : RdAt w w9 p (k + 1) s v' := by
  have hba := h.below.alloc h.below.size (.cells #[.int .i64 x1, .int .i64 x2, .string ⟨#[]⟩] 51)
  refine ⟨hba.grown hg hba.size (fun j hj => (World.ownsRow.lt h.row j hj).1), h.fresh, ?_, ?_, hri⟩
  · rw [h.next]
    exact h.rf.kept ((hg.block p (by have := h.rf.lt; simp; omega) (fun e => h.off e.symm)).trans (Below.heap_alloc _ _ _ h.rf.lt))
  · rw [h.next, flatA_append]
    exact ho
theorem rise_next {w W : World} {p k xb : Nat} {s : RS} {sv : Value} {x1 x2 : Int} {t : RS} (h : RdX w W p k xb s sv x1 x2 t) (hr : riseB (-1) (-1) (pairsS k s).1 = true) :
    riseB (-1) (-1) (pairsS (k + 1) s).1 = riseB (lastE (pairsS k s).1 (-1) (-1)).1 (lastE (pairsS k s).1 (-1) (-1)).2 [(x1, x2)] := by
  rw [h.next]
  simp only
  rw [rise_app, hr, Bool.true_and]
/-- One that may not be there: the whole is refused. -/
theorem bad_rise {b : List UInt8} {n0 : Int} {s0 : RS} {k : Nat} (R1 : (n0 < 0 ∨ 200 < n0) → eload b = ([], 4)) (R2 : ∀ N : Nat, n0 = (N : Int) → N ≤ 200 → eload b = if doneS (pairsS N s0).2 && riseB (-1) (-1) (pairsS N s0).1 then ((pairsS N s0).1, 0) else ([], 4))
    (hk : (k : Int) < n0) (hr : riseB (-1) (-1) (pairsS (k + 1) s0).1 = false) : eload b = ([], 4) := by
  by_cases h : 200 < n0
  · exact R1 (.inr h)
  · obtain ⟨N, rfl⟩ := Int.eq_ofNat_of_zero_le (show 0 ≤ n0 by omega)
    rw [R2 N rfl (by omega), rise_pre (show k + 1 ≤ N by omega) hr, Bool.and_false]
    rfl
theorem bad_wrong {b : List UInt8} {n0 : Int} {s0 : RS} {k : Nat} (R1 : (n0 < 0 ∨ 200 < n0) → eload b = ([], 4)) (R2 : ∀ N : Nat, n0 = (N : Int) → N ≤ 200 → eload b = if doneS (pairsS N s0).2 && riseB (-1) (-1) (pairsS N s0).1 then ((pairsS N s0).1, 0) else ([], 4))
    (hk : k = 0 ∨ (k : Int) ≤ n0) (hr : (pairsS k s0).2.wrong = true) : eload b = ([], 4) := by
  by_cases h : n0 < 0 ∨ 200 < n0
  · exact R1 h
  · obtain ⟨N, rfl⟩ := Int.eq_ofNat_of_zero_le (show 0 ≤ n0 by omega)
    have hw := pairs_wrong (show k ≤ N by omega) hr
    rw [R2 N rfl (by omega)]
    have : doneS (pairsS N s0).2 = false := by unfold doneS; rw [hw]; rfl
    rw [this]
    rfl
theorem at_end {b : List UInt8} {n0 : Int} {s0 : RS} {k : Nat} (R2 : ∀ N : Nat, n0 = (N : Int) → N ≤ 200 → eload b = if doneS (pairsS N s0).2 && riseB (-1) (-1) (pairsS N s0).1 then ((pairsS N s0).1, 0) else ([], 4))
    (hk : n0 = (k : Int)) (h2 : k ≤ 200) (hr : riseB (-1) (-1) (pairsS k s0).1 = true) : (doneS (pairsS k s0).2 = false → eload b = ([], 4)) ∧ (doneS (pairsS k s0).2 = true → eload b = ((pairsS k s0).1, 0)) := by
  have h := R2 k hk h2
  rw [hr, Bool.and_true] at h
  constructor
  · intro hd; rw [h, hd]; rfl
  · intro hd; rw [h, hd]; rfl
theorem last_of {l : List (Int × Int)} {i : Nat} {y : Int × Int} (hl : l.length = i + 1) (hy : l[i]? = some y) : lastE l (-1) (-1) = y := by
  unfold lastE
  rw [List.getLast?_eq_getElem?, hl, Nat.add_sub_cancel, hy]

set_option maxHeartbeats 12800000 in
theorem docread_any (b : List UInt8) (w : World) (hb : b.length ≤ 100000000) : Calls Tryz.prog 29 #[.string (strOf b)] w fun e w' => DocPost w b e w' := by
  have hsz := strOf_size b
  by_cases h4 : b.length < 4
  · have h4' : ((strOf b).size : Int) < 4 := by omega
    have h4'' : (b.length : Int) < 4 := by omega
    have HE := hid (eload_err.1 h4)
    clear h4
    go_enter Tryz.func29, Tryz.ntmps29
    go_wp2_with fail
    go_ret2
    exact doc_err HE.out (by omega) (Below.refl _ _)
  · have h4' : ¬ ((strOf b).size : Int) < 4 := by omega
    have h4'' : ¬ (b.length : Int) < 4 := by omega
    have hx := extract_drop b 4
    have hx2 := extract_take b 4
    have h5 : (4 : Int) ≤ ((strOf b).size : Int) := by omega
    have h5' : (4 : Int) ≤ (b.length : Int) := by omega
    have hdl : (strOf (b.drop 4)).size ≤ maxLen := by rw [strOf_size, List.length_drop]; unfold maxLen; omega
    have HC : Hid (∀ W, Calls Tryz.prog 47 #[.string (strOf (b.drop 4))] W fun e w' => e = .returned (.int .i64 (crcL (b.drop 4) : Nat)) ∧ W = w') := fun W => by
      have := rcrc_any (strOf (b.drop 4)) W hdl
      rw [strOf_data] at this
      exact this
    have HF : Hid (∀ W, Calls Tryz.prog 46 #[.int .i64 (crcL (b.drop 4) : Nat)] W fun e w' => e = .returned (.string (strOf (fourL (crcL (b.drop 4))))) ∧ Below W.heap.size W w') := fun W => rfour_any _ W (crcL_lt _)
    have HIff := hid (four_take h4 (crcL (b.drop 4)) (crcL_lt _))
    have HEr := hid ((eload_err (b := b)).2 h4)
    have HRs := hid (fun h => eload_rest (b := b) h4 h)
    clear h4
    generalize hcr : crcL (b.drop 4) = C at *
    clear hcr
    have hst : ∀ x y : List UInt8, ((strOf x).toList == (strOf y).toList) = decide (x = y) := fun x y => by
      rw [Lib.toList_data, Lib.toList_data, strOf_data, strOf_data]
      by_cases h : x = y <;> simp [h]
    have HST := hid (hst (fourL C) (b.take 4))
    clear hst
    by_cases hq : fourL C = b.take 4
    · rw [decide_eq_true hq] at HST
      have hst := HST.out
      obtain ⟨R1, R2⟩ := HRs.out (HIff.out.1 hq)
      have HR1 := hid R1
      have HR2 := hid R2
      have hnr := (readL_range (b.drop 4)).1
      clear hq R1 R2 HRs HIff HEr HST
      have hdl2 : (b.drop 4).length ≤ maxLen := by rw [List.length_drop]; unfold maxLen; omega
      go_enter Tryz.func29, Tryz.ntmps29
      go_wp2_with fail
      go_region_with (first
        | (go_at_call 47; refine (HC.out _).mono ?_; rintro e w1 ⟨rfl, rfl⟩)
        | (go_at_call 46; refine (HF.out _).mono ?_; rintro e w2 ⟨rfl, hb2⟩)
        | fail)
      all_goals
        have hB2 : Below w.heap.size w w2 := (by first | exact (Below.refl _ _).drew.trans hb2 | exact (below_drewN (Below.refl _ _) _).trans hb2)
        have hRf : Rf (w2.alloc (.cells #[.string (strOf (b.drop 4)), .bool false] 94)) w2.heap.size ⟨b.drop 4, false⟩ := ⟨heap_alloc_new w2 _, hdl2⟩
        have HNm := hid (rnumber_any hRf)
        have HB3 := hid (hB2.alloc hB2.size (.cells #[.string (strOf (b.drop 4)), .bool false] 94))
        have hs2 := hB2.size
        clear hRf hB2 hb2
        obtain ⟨n0, s0, hnS⟩ : ∃ n0 s0, numS ⟨b.drop 4, false⟩ = (n0, s0) := ⟨_, _, rfl⟩
        rw [hnS] at HNm HR1 HR2
        clear hnS
        simp only at HNm HR1 HR2
        go_wp2_with fail
        generalize w2.heap.size = p at *
        refine HNm.out.mono ?_
        rintro e w4 ⟨rfl, hr4, hg4⟩
        have HI0 : Hid (RdAt w w4 p 0 s0 (.slice none 0 0)) := ⟨HB3.out.grown hg4 HB3.out.size (fun j hj => by cases hj; exact hs2), hs2, hr4, World.ownsRow_nil _ _ _ _, rfl⟩
        clear hr4 hg4 HNm
        go_wp2_with fail
        go_loopg [6, 7] 201 (fun kx s6 s7 wr => ∃ (k : Nat) (sv : Value), k ≤ 201 ∧ (k = 0 ∨ (k : Int) ≤ n0) ∧ 201 - k ≤ kx ∧ s7 = .int .i64 (k : Int) ∧ sv = s6 ∧ Hid (RdAt w wr p k s0 sv))
        case atStart => exact ⟨0, _, by omega, .inl rfl, by omega, rfl, rfl, HI0⟩
        case round =>
          obtain ⟨k, sv, hk, hkn, hkx, rfl, rfl, HI⟩ := hrel
          clear HI0
          have hc1 := HI.out.rf.c1
          have hc0 := HI.out.rf.c0
          by_cases hgo : (k : Int) < n0 ∧ k ≤ 200 ∧ (pairsS k s0).2.wrong = false
          · obtain ⟨g1, g2, g3⟩ := hgo
            rw [g3] at hc1
            have g2' : (k : Int) ≤ 200 := by omega
            have HS : Hid (pairsS (k + 1) s0 = ((pairsS k s0).1 ++ [((numS (pairsS k s0).2).1, (numS (numS (pairsS k s0).2).2).1)], (numS (numS (pairsS k s0).2).2).2)) := pairs_succ k s0
            have HP1 := hid (rnumber_any HI.out.rf)
            have HP2 : Hid (∀ W, Rf W p (numS (pairsS k s0).2).2 → Calls Tryz.prog 48 #[.pointer (some ⟨p, 0, none⟩)] W fun e w' => e = .returned (.int .i64 (numS (numS (pairsS k s0).2).2).1) ∧ Rf w' p (numS (numS (pairsS k s0).2).2).2 ∧ W.grownBy w' (some p)) := fun W hp => rnumber_any hp
            have hpl := pairs_length k s0
            have HAl : Hid (AL wr sv (pairsS k s0).1) := AL.of (by rw [hpl]; exact HI.out.row)
            generalize numS (numS (pairsS k s0).2).2 = B2 at *
            generalize numS (pairsS k s0).2 = B1 at *
            obtain ⟨x1, t1⟩ := B1
            obtain ⟨x2, t2⟩ := B2
            simp only at HP1 HP2 HS
            go_wp2_with fail
            refine HP1.out.mono ?_
            rintro e w5 ⟨rfl, hr5, hg5⟩
            have HR5 := hid hr5
            have HG5 := hid hg5
            have H28 := hid (HP2.out (w5.alloc (.cells #[.int .i64 x1, .int .i64 0, .string ⟨#[]⟩] 51)) (hr5.kept (Below.heap_alloc _ _ _ hr5.lt)))
            clear hr5 hg5 HP1 HP2 hc0 hc1 g3
            go_wp2_with fail
            refine H28.out.mono ?_
            rintro e w6 ⟨rfl, hr6, hg6⟩
            obtain ⟨hX, f1, f2⟩ := HI.out.step HS.out HG5.out HR5.out hg6 hr6
            have HX := hid hX
            have HRk := hid HI.out.rise
            have HNx := hid (rise_next hX HI.out.rise)
            have hB6 := hX.below
            clear hX hr6 hg6 H28 HG5 HR5 HI HS
            go_upto_region 13 with fail
            generalize w6.setCell ⟨w5.heap.size, 1, none⟩ (.int .i64 x2) = W6 at *
            generalize w5.heap.size = xb at *
            have v0 := cell_at HX.out.box (j := 0) rfl
            have v1 := cell_at HX.out.box (j := 1) rfl
            obtain ⟨ok, HOK⟩ : ∃ ok, Hid (ok = riseB (lastE (pairsS k s0).1 (-1) (-1)).1 (lastE (pairsS k s0).1 (-1) (-1)).2 [(x1, x2)]) := ⟨_, rfl⟩
            go_cut [90] from 25 to 94 (fun s90 wx => s90 = .bool (!ok) ∧ Hid (RdX w wx p k xb s0 sv x1 x2 t2))
            case first =>
              cases k with
              | zero =>
                have hl0 : lastE (pairsS 0 s0).1 (-1) (-1) = (-1, -1) := rfl
                rw [hl0] at HOK
                by_cases c0 : x1 < 0
                · have e0 : decide (x1 < 0) = true := decide_eq_true c0
                  have hok : ok = false := by rw [HOK.out, rise_one]; simp [inB]; omega
                  clear HOK
                  subst hok
                  go_wp2_with fail
                  go_quiet (fail)
                  try go_wp2_with fail
                  go_meet
                  case rel => exact ⟨rfl, by first | exact HX | exact HX.out.drewN _⟩
                · have e0 : decide (x1 < 0) = false := decide_eq_false c0
                  by_cases c1 : 1000000000 < x1
                  · have e1 : decide (1000000000 < x1) = true := decide_eq_true c1
                    have hok : ok = false := by rw [HOK.out, rise_one]; simp [inB]; omega
                    clear HOK
                    subst hok
                    go_wp2_with fail
                    go_quiet (fail)
                    try go_wp2_with fail
                    go_meet
                    case rel => exact ⟨rfl, by first | exact HX | exact HX.out.drewN _⟩
                  · have e1 : decide (1000000000 < x1) = false := decide_eq_false c1
                    by_cases c2 : x2 < 0
                    · have e2 : decide (x2 < 0) = true := decide_eq_true c2
                      have hok : ok = false := by rw [HOK.out, rise_one]; simp [inB]; omega
                      clear HOK
                      subst hok
                      go_wp2_with fail
                      go_quiet (fail)
                      try go_wp2_with fail
                      go_meet
                      case rel => exact ⟨rfl, by first | exact HX | exact HX.out.drewN _⟩
                    · have e2 : decide (x2 < 0) = false := decide_eq_false c2
                      by_cases c3 : 1000000000 < x2
                      · have e3 : decide (1000000000 < x2) = true := decide_eq_true c3
                        have hok : ok = false := by rw [HOK.out, rise_one]; simp [inB]; omega
                        clear HOK
                        subst hok
                        go_wp2_with fail
                        go_quiet (fail)
                        try go_wp2_with fail
                        go_meet
                        case rel => exact ⟨rfl, by first | exact HX | exact HX.out.drewN _⟩
                      · have e3 : decide (1000000000 < x2) = false := decide_eq_false c3
                        have hok : ok = true := by rw [HOK.out, rise_one]; simp [inB]; omega
                        clear HOK
                        subst hok
                        go_wp2_with fail
                        go_quiet (fail)
                        try go_wp2_with fail
                        go_meet
                        case rel => exact ⟨rfl, by first | exact HX | exact HX.out.drewN _⟩
              | succ i =>
                have hy : (pairsS (i + 1) s0).1[i]? = some ((pairsS (i + 1) s0).1[i]'(by omega)) := List.getElem?_eq_getElem (by omega)
                rw [last_of hpl hy] at HOK
                have hA6 : AL W6 sv (pairsS (i + 1) s0).1 := AL.of (by rw [hpl]; exact HX.out.row)
                obtain ⟨lo, lc, hsv, hlo⟩ := hA6.shape
                rw [hpl] at hsv
                subst hsv
                obtain ⟨lg, rfl⟩ := hlo (by omega)
                obtain ⟨u0, u1, u2⟩ := hA6.at_ i _ hy
                generalize ((pairsS (i + 1) s0).1[i]'(by omega)) = y at *
                have d6 : IntKind.i64.wrap ((i : Int) + 1 - 1) = (i : Int) := by rw [IntWalk.i64_in _ (by omega)]; omega
                have d7 : IntKind.i64.wrap (i : Int) = (i : Int) := IntWalk.i64_in _ (by omega)
                have d8 : (i : Int) < (i : Int) + 1 := by omega
                have d9 : (0 : Int) < (i : Int) + 1 := by omega
                have d10 : (0 : Int) ≤ (i : Int) := by omega
                clear hy hA6 hlo
                by_cases c0 : x1 < 0
                · have e0 : decide (x1 < 0) = true := decide_eq_true c0
                  have hok : ok = false := by rw [HOK.out, rise_one]; simp [inB]; omega
                  clear HOK
                  subst hok
                  go_wp2_with fail
                  go_quiet (fail)
                  try go_wp2_with fail
                  go_meet
                  case rel => exact ⟨rfl, by first | exact HX | exact HX.out.drewN _⟩
                · have e0 : decide (x1 < 0) = false := decide_eq_false c0
                  by_cases c1 : 1000000000 < x1
                  · have e1 : decide (1000000000 < x1) = true := decide_eq_true c1
                    have hok : ok = false := by rw [HOK.out, rise_one]; simp [inB]; omega
                    clear HOK
                    subst hok
                    go_wp2_with fail
                    go_quiet (fail)
                    try go_wp2_with fail
                    go_meet
                    case rel => exact ⟨rfl, by first | exact HX | exact HX.out.drewN _⟩
                  · have e1 : decide (1000000000 < x1) = false := decide_eq_false c1
                    by_cases c2 : x2 < 0
                    · have e2 : decide (x2 < 0) = true := decide_eq_true c2
                      have hok : ok = false := by rw [HOK.out, rise_one]; simp [inB]; omega
                      clear HOK
                      subst hok
                      go_wp2_with fail
                      go_quiet (fail)
                      try go_wp2_with fail
                      go_meet
                      case rel => exact ⟨rfl, by first | exact HX | exact HX.out.drewN _⟩
                    · have e2 : decide (x2 < 0) = false := decide_eq_false c2
                      by_cases c3 : 1000000000 < x2
                      · have e3 : decide (1000000000 < x2) = true := decide_eq_true c3
                        have hok : ok = false := by rw [HOK.out, rise_one]; simp [inB]; omega
                        clear HOK
                        subst hok
                        go_wp2_with fail
                        go_quiet (fail)
                        try go_wp2_with fail
                        go_meet
                        case rel => exact ⟨rfl, by first | exact HX | exact HX.out.drewN _⟩
                      · have e3 : decide (1000000000 < x2) = false := decide_eq_false c3
                        by_cases c4 : x1 ≤ y.1
                        · have e4 : decide (x1 ≤ y.1) = true := decide_eq_true c4
                          have hok : ok = false := by rw [HOK.out, rise_one]; simp [inB]; omega
                          clear HOK
                          subst hok
                          go_wp2_with fail
                          go_quiet (fail)
                          try go_wp2_with fail
                          go_meet
                          case rel => exact ⟨rfl, by first | exact HX | exact HX.out.drewN _⟩
                        · have e4 : decide (x1 ≤ y.1) = false := decide_eq_false c4
                          by_cases c5 : x2 ≤ y.2
                          · have e5 : decide (x2 ≤ y.2) = true := decide_eq_true c5
                            have hok : ok = false := by rw [HOK.out, rise_one]; simp [inB]; omega
                            clear HOK
                            subst hok
                            go_wp2_with fail
                            go_quiet (fail)
                            try go_wp2_with fail
                            go_meet
                            case rel => exact ⟨rfl, by first | exact HX | exact HX.out.drewN _⟩
                          · have e5 : decide (x2 ≤ y.2) = false := decide_eq_false c5
                            have hok : ok = true := by rw [HOK.out, rise_one]; simp [inB]; omega
                            clear HOK
                            subst hok
                            go_wp2_with fail
                            go_quiet (fail)
                            try go_wp2_with fail
                            go_meet
                            case rel => exact ⟨rfl, by first | exact HX | exact HX.out.drewN _⟩
            case rest =>
              obtain ⟨rfl, HX2⟩ := hcut
              cases ok with
              | false =>
                have HEL := hid (bad_rise HR1.out HR2.out g1 (by rw [HNx.out]; exact HOK.out.symm))
                go_wp2_with fail
                go_ret2
                exact doc_err HEL.out (by omega) HX2.out.below
              | true =>
                have hri : riseB (-1) (-1) (pairsS (k + 1) s0).1 = true := by rw [HNx.out]; exact HOK.out.symm
                have HNext : Hid (∀ v' w9, w9.ownsRow w.heap.size 51 3 v' (k + 1) (flatA (pairsS k s0).1 ++ [.int .i64 x1, .int .i64 x2, .string ⟨#[]⟩]) → (wc.alloc (.cells #[.int .i64 x1, .int .i64 x2, .string ⟨#[]⟩] 51)).grownBy w9 sv.ownBlock → RdAt w w9 p (k + 1) s0 v') := fun v' w9 ho hg => HX2.out.push hri ho hg
                have HRw : Hid ((wc.alloc (.cells #[.int .i64 x1, .int .i64 x2, .string ⟨#[]⟩] 51)).ownsRow w.heap.size 51 3 sv k (flatA (pairsS k s0).1)) := ownsRow_kept HX2.out.row (fun j hj => Below.heap_alloc _ _ _ (World.ownsRow.lt HX2.out.row j hj).2)
                have HNW : Hid (∀ j u, [Value.int .i64 x1, .int .i64 x2, .string ⟨#[]⟩][j]? = some u → (wc.alloc (.cells #[.int .i64 x1, .int .i64 x2, .string ⟨#[]⟩] 51)).cell? ((⟨wc.heap.size, 0, none⟩ : Addr).add j) = some u) := fun j u hu => by
                  rw [add_lit0]
                  exact cell_at (heap_alloc_new wc (.cells #[.int .i64 x1, .int .i64 x2, .string ⟨#[]⟩] 51)) (by simpa using hu)
                have HON : Hid (∀ u ∈ [Value.int .i64 x1, .int .i64 x2, .string ⟨#[]⟩], u.oneCell' = true) := fun u hu => by
                  simp at hu
                  rcases hu with rfl | rfl | rfl <;> rfl
                have hbs := HX2.out.below.size
                have v0' := cell_at HX2.out.box (j := 0) rfl
                have v1' := cell_at HX2.out.box (j := 1) rfl
                have v2' := cell_at HX2.out.box (j := 2) rfl
                obtain ⟨i0, hi0, hz0, hz1, hz2⟩ := info51
                generalize flatA (pairsS k s0).1 = F at *
                go_wp2_with (at_builtin; refine wpList_append_own_at _ rfl _ _ 44 rfl w.heap.size 51 i0 _ 3 32 Tryz.underlying44 hi0 hz0 hz1 hz2 rfl (by decide) _ k F rfl HRw.out ⟨wc.heap.size, 0, none⟩ 1 1 [.int .i64 x1, .int .i64 x2, .string ⟨#[]⟩] rfl rfl HNW.out HON.out (by unfold maxLen; omega) (by omega) (by simp; omega) ?_; intro v' w9 hown9 hg9 _ hat)
                go_roundg (201 - (k + 1))
                case measure => omega
                case rel => exact ⟨k + 1, v', by omega, .inr (by omega), Nat.le_refl _, by go_num, rfl, HNext.out _ _ hown9 hg9⟩
          · have HIb := hid HI.out.below
            have HBw := hid (bad_wrong HR1.out HR2.out hkn)
            have HAt := hid (fun h1 h2 => at_end (k := k) HR2.out h1 h2 HI.out.rise)
            have hpl := pairs_length k s0
            have HFr : Hid (∀ j, sv.ownBlock = some j → w.heap.size ≤ j ∧ j < wr.heap.size) := fun k hk => World.ownsRow.lt HI.out.row k hk
            have HAl : Hid (AL wr sv (pairsS k s0).1) := AL.of (by rw [hpl]; exact HI.out.row)
            have HDn : Hid (doneS (pairsS k s0).2 = (!(pairsS k s0).2.wrong && (pairsS k s0).2.rest.isEmpty)) := rfl
            obtain ⟨lo, lc, rfl, hlo⟩ := HAl.out.shape
            rw [hpl] at HAl HFr
            rw [hpl]
            have hst0 : ((strOf (pairsS k s0).2.rest).toList == ([] : List UInt8)) = (pairsS k s0).2.rest.isEmpty := by
              rw [Lib.toList_data, strOf_data]
              cases (pairsS k s0).2.rest <;> rfl
            clear HI hlo
            generalize (pairsS k s0).1 = L at *
            generalize (pairsS k s0).2 = st at *
            obtain ⟨rest, wrong⟩ := st
            simp only at hc0 hc1 hgo HBw HAt HDn hst0
            go_upto_region 9 with fail
            go_cut [38] from 25 to 94 (fun s38 wx => s38 = .bool false ∧ wx = wr)
            case first =>
              by_cases g1 : (k : Int) < n0
              · by_cases g2 : k ≤ 200
                · have g2' : (k : Int) ≤ 200 := by omega
                  have g3 : wrong = true := by
                    cases wrong with
                    | true => rfl
                    | false => exact absurd ⟨g1, g2, rfl⟩ hgo
                  subst g3
                  go_wp2_with fail
                  go_meet
                  case rel => exact ⟨rfl, rfl⟩
                · have g2' : ¬ (k : Int) ≤ 200 := by omega
                  go_wp2_with fail
                  go_meet
                  case rel => exact ⟨rfl, rfl⟩
              · go_wp2_with fail
                go_meet
                case rel => exact ⟨rfl, rfl⟩
            case rest =>
              obtain ⟨rfl, hwc⟩ := hcut
              have hwc' := hwc.symm
              subst hwc'
              clear hwc
              cases wrong with
              | true =>
                have HEL := hid (HBw.out rfl)
                clear HBw HAt HR1 HR2 hgo
                go_wp2_with fail
                go_ret2
                exact doc_err HEL.out (by omega) HIb.out
              | false =>
                have hgo' : ¬ ((k : Int) < n0 ∧ k ≤ 200) := fun h => hgo ⟨h.1, h.2, rfl⟩
                by_cases hin : n0 < 0 ∨ 200 < n0
                · have HEL := hid (HR1.out hin)
                  clear HBw HAt HR1 HR2 hgo
                  cases hem : rest.isEmpty with
                  | false =>
                    rw [hem] at hst0
                    go_wp2_with fail
                    go_ret2
                    exact doc_err HEL.out (by omega) HIb.out
                  | true =>
                    rw [hem] at hst0
                    by_cases hn0 : n0 < 0
                    · go_wp2_with fail
                      go_ret2
                      exact doc_err HEL.out (by omega) HIb.out
                    · have hn1 : (200 : Int) < n0 := by omega
                      go_wp2_with fail
                      go_ret2
                      exact doc_err HEL.out (by omega) HIb.out
                · have hkn0 : n0 = (k : Int) := by omega
                  obtain ⟨E1, E2⟩ := HAt.out hkn0 (by omega)
                  cases hem : rest.isEmpty with
                  | false =>
                    rw [hem] at hst0 HDn
                    have HEL := hid (E1 HDn.out)
                    clear HBw HAt HR1 HR2 hgo E1 E2 hkn0
                    go_wp2_with fail
                    go_ret2
                    exact doc_err HEL.out (by omega) HIb.out
                  | true =>
                    rw [hem] at hst0 HDn
                    have HEL := hid (E2 HDn.out)
                    have hn0 : ¬ n0 < 0 := by omega
                    have hn1 : ¬ (200 : Int) < n0 := by omega
                    clear HBw HAt HR1 HR2 hgo E1 E2 hkn0
                    go_wp2_with fail
                    go_ret2
                    exact doc_ok HEL.out HAl.out HFr.out HIb.out
    rw [decide_eq_false hq] at HST
    have hst := HST.out
    have HEL := hid (HEr.out (fun h => hq (HIff.out.2 h)))
    clear hq HRs HIff HEr HST
    go_enter Tryz.func29, Tryz.ntmps29
    go_wp2_with fail
    go_region_with (first
      | (go_at_call 47; refine (HC.out _).mono ?_; rintro e w1 ⟨rfl, rfl⟩)
      | (go_at_call 46; refine (HF.out _).mono ?_; rintro e w2 ⟨rfl, hb2⟩)
      | fail)
    all_goals
      go_wp2_with fail
      go_ret2
      exact doc_err HEL.out (by omega) (by first | exact (Below.refl _ _).drew.trans hb2 | exact (below_drewN (Below.refl _ _) _).trans hb2)

end Go.Proofs.YtjggdecjnnpjaaaGreat

