/- Right, the document's. -/
import Derived.Test.YtfahepeemodcbaaN2
import Derived.Test.YtfahepeemodcbaaN4
namespace Go.Proofs.Ytfahepeemodcbaa
open Go.RowKit Go.Maps
set_option linter.unusedSimpArgs false
set_option linter.unusedVariables false
set_option maxRecDepth 100000

theorem left_iff {p : Pt} (h1 : p.reps.Nodup) (h2 : p.rem.Nodup) (h3 : ∀ x ∈ p.rem, x ∈ p.reps) : outL p.reps p.rem ≠ [] ↔ p.rem.length < p.reps.length := by
  constructor
  · intro hn
    cases hL : outL p.reps p.rem with
    | nil => exact absurd hL hn
    | cons x r =>
      have hx : x ∈ outL p.reps p.rem := by rw [hL]; simp
      rw [mem_outL] at hx
      have := len_sub (x :: p.rem) p.reps (List.nodup_cons.2 ⟨hx.2, h2⟩) (fun y hy => by
        rcases List.mem_cons.1 hy with rfl | hy
        · exact hx.1
        · exact h3 y hy)
      simp at this
      omega
  · intro hl he
    have := len_sub p.reps p.rem h1 fun x hx => Decidable.byContradiction fun hn => by
      have : x ∈ outL p.reps p.rem := mem_outL.2 ⟨hx, hn⟩
      rw [he] at this; cases this
    omega
theorem in_len (l m : List Int) : (inL l m).length = 0 ↔ ∀ x ∈ l, x ∉ m := by
  constructor
  · intro h x hx hn
    have he := List.eq_nil_of_length_eq_zero h
    have : x ∈ inL l m := mem_inL.2 ⟨hx, hn⟩
    rw [he] at this; cases this
  · intro h
    cases hL : inL l m with
    | nil => rfl
    | cons x r =>
      have hx : x ∈ inL l m := by rw [hL]; simp
      exact absurd (mem_inL.1 hx).2 (h x (mem_inL.1 hx).1)
/-- Right by the document's tests. -/
theorem right_doc (p : Pt) : rightB p = true ↔ ((1 ≤ p.id ∧ p.id ≤ 16) ∧ (1 ≤ p.min ∧ p.min ≤ 5) ∧ (1 ≤ p.epoch ∧ p.epoch ≤ 1000000000) ∧ (1 ≤ p.ver ∧ p.ver ≤ 1000000000) ∧ p.isr ≠ []) ∧ (idsB p.reps = true ∧ idsB p.isr = true ∧ idsB p.add = true ∧ idsB p.rem = true) ∧ p.isr.all (hasB p.reps) = true ∧ p.add.all (hasB p.reps) = true ∧ p.rem.all (hasB p.reps) = true ∧ (inL p.rem p.add).length = 0 ∧ p.rem.length < p.reps.length ∧ (p.leader = 0 ∨ hasB p.isr p.leader = true) := by
  rw [rightB_iff]
  simp only [idsB_iff, List.all_eq_true, hasB_iff, in_len]
  constructor
  · rintro ⟨a, b, c, d, e, f, g, h, i, j, k, l, m, n, q⟩
    exact ⟨⟨a, b, c, d, i⟩, ⟨f, e, g, h⟩, j, k, l, m, (left_iff f.1 h.1 l).1 n, q⟩
  · rintro ⟨⟨a, b, c, d, i⟩, ⟨f, e, g, h⟩, j, k, l, m, n, q⟩
    exact ⟨a, b, c, d, e, f, g, h, i, j, k, l, m, (left_iff f.1 h.1 l).2 n, q⟩
theorem not_right {p : Pt} (h : ¬ rightB p = true) : rightB p = false := by simpa using h
set_option maxHeartbeats 12800000 in
theorem rright_any {w : World} {v : Value} {p : Pt} (h : PartM w v p) : Calls Try.prog 13 #[v] w fun e w' => e = .returned (.bool (rightB p)) ∧ Below w.heap.size w w' := by
  obtain ⟨id, ld, ep, vr, isr, reps, add, rem, mn⟩ := p
  obtain ⟨a1, c1, a2, c2, a3, c3, a4, c4, rfl, q1, q2, q3, q4, i0, i1, i2, i3, i4⟩ := h.open
  simp only at q1 q2 q3 q4 i0 i1 i2 i3 i4 ⊢
  have Q1 := hid q1
  have Q2 := hid q2
  have Q3 := hid q3
  have Q4 := hid q4
  clear h q1 q2 q3 q4
  have HX : Hid ((w.alloc (.cells #[.int .i64 id, .int .i64 ld, .int .i64 ep, .int .i64 vr, .slice a1 isr.length c1, .slice a2 reps.length c2, .slice a3 add.length c3, .slice a4 rem.length c4, .int .i64 mn] 24)).heap[w.heap.size]? = some (.cells #[.int .i64 id, .int .i64 ld, .int .i64 ep, .int .i64 vr, .slice a1 isr.length c1, .slice a2 reps.length c2, .slice a3 add.length c3, .slice a4 rem.length c4, .int .i64 mn] 24)) := heap_alloc_new w _
  have HB : Hid (Below w.heap.size w (w.alloc (.cells #[.int .i64 id, .int .i64 ld, .int .i64 ep, .int .i64 vr, .slice a1 isr.length c1, .slice a2 reps.length c2, .slice a3 add.length c3, .slice a4 rem.length c4, .int .i64 mn] 24))) := (Below.refl _ _).alloc (Nat.le_refl _) _
  have hsz : (w.alloc (.cells #[.int .i64 id, .int .i64 ld, .int .i64 ep, .int .i64 vr, .slice a1 isr.length c1, .slice a2 reps.length c2, .slice a3 add.length c3, .slice a4 rem.length c4, .int .i64 mn] 24)).heap.size = w.heap.size + 1 := by simp
  have HD := hid (right_doc ⟨id, ld, ep, vr, isr, reps, add, rem, mn⟩)
  simp only at HD
  have f1 := Q1.out.few
  have f2 := Q2.out.few
  have f4 := Q4.out.few
  have G1 : Hid (∀ W, Below w.heap.size w W → Calls Try.prog 40 #[.slice a2 reps.length c2] W fun e w' => e = .returned (.bool (idsB reps)) ∧ Below W.heap.size W w') := fun W hb => rids_any (Q2.out.under hb)
  have G2 : Hid (∀ W, Below w.heap.size w W → Calls Try.prog 40 #[.slice a1 isr.length c1] W fun e w' => e = .returned (.bool (idsB isr)) ∧ Below W.heap.size W w') := fun W hb => rids_any (Q1.out.under hb)
  have G3 : Hid (∀ W, Below w.heap.size w W → Calls Try.prog 40 #[.slice a3 add.length c3] W fun e w' => e = .returned (.bool (idsB add)) ∧ Below W.heap.size W w') := fun W hb => rids_any (Q3.out.under hb)
  have G4 : Hid (∀ W, Below w.heap.size w W → Calls Try.prog 40 #[.slice a4 rem.length c4] W fun e w' => e = .returned (.bool (idsB rem)) ∧ Below W.heap.size W w') := fun W hb => rids_any (Q4.out.under hb)
  have G5 : Hid (∀ W, Below w.heap.size w W → Calls Try.prog 41 #[.slice a1 isr.length c1, .slice a2 reps.length c2] W fun e w' => e = .returned (.bool (isr.all (hasB reps))) ∧ Below W.heap.size W w') := fun W hb => rpart_any (Q1.out.under hb) (Q2.out.under hb)
  have G6 : Hid (∀ W, Below w.heap.size w W → Calls Try.prog 41 #[.slice a3 add.length c3, .slice a2 reps.length c2] W fun e w' => e = .returned (.bool (add.all (hasB reps))) ∧ Below W.heap.size W w') := fun W hb => rpart_any (Q3.out.under hb) (Q2.out.under hb)
  have G7 : Hid (∀ W, Below w.heap.size w W → Calls Try.prog 41 #[.slice a4 rem.length c4, .slice a2 reps.length c2] W fun e w' => e = .returned (.bool (rem.all (hasB reps))) ∧ Below W.heap.size W w') := fun W hb => rpart_any (Q4.out.under hb) (Q2.out.under hb)
  have G8 : Hid (∀ W, Below w.heap.size w W → Calls Try.prog 42 #[.slice a1 isr.length c1, .int .i64 ld] W fun e w' => e = .returned (.bool (hasB isr ld)) ∧ W = w') := fun W hb => rhas_any (Q1.out.under hb) ld i1
  have G9 : Hid (∀ W, Below w.heap.size w W → Calls Try.prog 43 #[.slice a4 rem.length c4, .slice a3 add.length c3] W fun e w' => ∃ va vc, e = .returned (.slice va (inL rem add).length vc) ∧ Below W.heap.size W w') := fun W hb => (rinL_any (Q4.out.under hb) (Q3.out.under hb)).mono fun e w' ⟨v', e1, e2, e3, e4⟩ => by obtain ⟨va, vc, rfl, _⟩ := e2.shape; exact ⟨va, vc, e1, e4⟩
  have HIR : Hid (isr.length = 0 → isr = []) := fun e => List.eq_nil_of_length_eq_zero e
  have HRR : Hid (idsB reps = true → True) := fun _ => trivial
  have HRN : Hid (isr.all (hasB reps) = true → isr ≠ [] → 1 ≤ reps.length) := fun e hn => by
    cases hi : isr with
    | nil => exact absurd hi hn
    | cons x r =>
      have : x ∈ reps := hasB_iff.1 (List.all_eq_true.1 e x (by rw [hi]; simp))
      exact List.length_pos_of_mem this
  generalize hRB : rightB ⟨id, ld, ep, vr, isr, reps, add, rem, mn⟩ = RB at *
  have HRB := hid hRB
  generalize idsB reps = B1 at *
  generalize idsB isr = B2 at *
  generalize idsB add = B3 at *
  generalize idsB rem = B4 at *
  generalize isr.all (hasB reps) = B5 at *
  generalize add.all (hasB reps) = B6 at *
  generalize rem.all (hasB reps) = B7 at *
  generalize hasB isr ld = B8 at *
  generalize (inL rem add).length = n9 at *
  clear hRB i0 i1 i2 i3 i4 Q1 Q2 Q3 Q4 HRR
  by_cases hb0 : id < 1
  · have HF : Hid (RB = false) := by
      show _ = _
      rw [Bool.eq_false_iff]
      intro e
      have := HD.out.1 e
      omega
    go_enter Try.func13, Try.ntmps13
    go_wp2_with fail
    go_ret
    exact ⟨by rw [HF.out]; rfl, HB.out⟩
  by_cases hb1 : 16 < id
  · have HF : Hid (RB = false) := by
      show _ = _
      rw [Bool.eq_false_iff]
      intro e
      have := HD.out.1 e
      omega
    go_enter Try.func13, Try.ntmps13
    go_wp2_with fail
    go_ret
    exact ⟨by rw [HF.out]; rfl, HB.out⟩
  by_cases hb2 : mn < 1
  · have HF : Hid (RB = false) := by
      show _ = _
      rw [Bool.eq_false_iff]
      intro e
      have := HD.out.1 e
      omega
    go_enter Try.func13, Try.ntmps13
    go_wp2_with fail
    go_ret
    exact ⟨by rw [HF.out]; rfl, HB.out⟩
  by_cases hb3 : 5 < mn
  · have HF : Hid (RB = false) := by
      show _ = _
      rw [Bool.eq_false_iff]
      intro e
      have := HD.out.1 e
      omega
    go_enter Try.func13, Try.ntmps13
    go_wp2_with fail
    go_ret
    exact ⟨by rw [HF.out]; rfl, HB.out⟩
  by_cases hb4 : ep < 1
  · have HF : Hid (RB = false) := by
      show _ = _
      rw [Bool.eq_false_iff]
      intro e
      have := HD.out.1 e
      omega
    go_enter Try.func13, Try.ntmps13
    go_wp2_with fail
    go_ret
    exact ⟨by rw [HF.out]; rfl, HB.out⟩
  by_cases hb5 : 1000000000 < ep
  · have HF : Hid (RB = false) := by
      show _ = _
      rw [Bool.eq_false_iff]
      intro e
      have := HD.out.1 e
      omega
    go_enter Try.func13, Try.ntmps13
    go_wp2_with fail
    go_ret
    exact ⟨by rw [HF.out]; rfl, HB.out⟩
  by_cases hb6 : vr < 1
  · have HF : Hid (RB = false) := by
      show _ = _
      rw [Bool.eq_false_iff]
      intro e
      have := HD.out.1 e
      omega
    go_enter Try.func13, Try.ntmps13
    go_wp2_with fail
    go_ret
    exact ⟨by rw [HF.out]; rfl, HB.out⟩
  by_cases hb7 : 1000000000 < vr
  · have HF : Hid (RB = false) := by
      show _ = _
      rw [Bool.eq_false_iff]
      intro e
      have := HD.out.1 e
      omega
    go_enter Try.func13, Try.ntmps13
    go_wp2_with fail
    go_ret
    exact ⟨by rw [HF.out]; rfl, HB.out⟩
  by_cases hr1 : reps.length < 1
  · have hr1' : (reps.length : Int) < 1 := by omega
    have HF : Hid (RB = false) := by
      show _ = _
      rw [Bool.eq_false_iff]
      intro e
      have h9 := HD.out.1 e
      have := HRN.out h9.2.2.1 h9.1.2.2.2.2
      omega
    go_enter Try.func13, Try.ntmps13
    go_wp2_with fail
    go_ret
    exact ⟨by rw [HF.out]; rfl, HB.out⟩
  have hr1' : ¬ (reps.length : Int) < 1 := by omega
  by_cases hi1 : isr.length < 1
  · have hi1' : (isr.length : Int) < 1 := by omega
    have HF : Hid (RB = false) := by
      show _ = _
      rw [Bool.eq_false_iff]
      intro e
      have h9 := HD.out.1 e
      exact h9.1.2.2.2.2 (HIR.out (by omega))
    go_enter Try.func13, Try.ntmps13
    go_wp2_with fail
    go_ret
    exact ⟨by rw [HF.out]; rfl, HB.out⟩
  have hi1' : ¬ (isr.length : Int) < 1 := by omega
  have HIN : Hid (isr ≠ []) := fun e => hi1 (by rw [e]; simp)
  have HNUM : Hid ((1 ≤ id ∧ id ≤ 16) ∧ (1 ≤ mn ∧ mn ≤ 5) ∧ (1 ≤ ep ∧ ep ≤ 1000000000) ∧ (1 ≤ vr ∧ vr ≤ 1000000000) ∧ isr ≠ []) := ⟨by omega, by omega, by omega, by omega, HIN.out⟩
  go_enter Try.func13, Try.ntmps13
  go_wp2_with fail
  generalize w.alloc (.cells #[.int .i64 id, .int .i64 ld, .int .i64 ep, .int .i64 vr, .slice a1 isr.length c1, .slice a2 reps.length c2, .slice a3 add.length c3, .slice a4 rem.length c4, .int .i64 mn] 24) = W0 at *
  refine (G1.out _ HB.out).mono ?_
  rintro e W1 ⟨rfl, hb⟩
  have HB1 := hid (HB.out.trans (hb.mono HB.out.size))
  have HX1 := hid (blk_under HX.out hb)
  clear hb
  have k4_1 := cell_blk HX1.out 4 _ rfl
  go_wp2_with fail
  refine (G2.out _ HB1.out).mono ?_
  rintro e W2 ⟨rfl, hb⟩
  have HB2 := hid (HB1.out.trans (hb.mono HB1.out.size))
  have HX2 := hid (blk_under HX1.out hb)
  clear hb
  have k6_2 := cell_blk HX2.out 6 _ rfl
  go_wp2_with fail
  refine (G3.out _ HB2.out).mono ?_
  rintro e W3 ⟨rfl, hb⟩
  have HB3 := hid (HB2.out.trans (hb.mono HB2.out.size))
  have HX3 := hid (blk_under HX2.out hb)
  clear hb
  have k7_3 := cell_blk HX3.out 7 _ rfl
  go_wp2_with fail
  refine (G4.out _ HB3.out).mono ?_
  rintro e W4 ⟨rfl, hb⟩
  have HB4 := hid (HB3.out.trans (hb.mono HB3.out.size))
  have HX4 := hid (blk_under HX3.out hb)
  clear hb
  cases B1
  · have HF : Hid (RB = false) := by
      show _ = _
      rw [Bool.eq_false_iff]
      intro e
      have h9 := HD.out.1 e
      simp at h9
    go_wp2_with fail
    go_ret
    exact ⟨by rw [HF.out]; rfl, HB4.out⟩
  cases B2
  · have HF : Hid (RB = false) := by
      show _ = _
      rw [Bool.eq_false_iff]
      intro e
      have h9 := HD.out.1 e
      simp at h9
    go_wp2_with fail
    go_ret
    exact ⟨by rw [HF.out]; rfl, HB4.out⟩
  cases B3
  · have HF : Hid (RB = false) := by
      show _ = _
      rw [Bool.eq_false_iff]
      intro e
      have h9 := HD.out.1 e
      simp at h9
    go_wp2_with fail
    go_ret
    exact ⟨by rw [HF.out]; rfl, HB4.out⟩
  cases B4
  · have HF : Hid (RB = false) := by
      show _ = _
      rw [Bool.eq_false_iff]
      intro e
      have h9 := HD.out.1 e
      simp at h9
    go_wp2_with fail
    go_ret
    exact ⟨by rw [HF.out]; rfl, HB4.out⟩
  have k4_4 := cell_blk HX4.out 4 _ rfl
  have k5_4 := cell_blk HX4.out 5 _ rfl
  go_wp2_with fail
  refine (G5.out _ HB4.out).mono ?_
  rintro e W5 ⟨rfl, hb⟩
  have HB5 := hid (HB4.out.trans (hb.mono HB4.out.size))
  have HX5 := hid (blk_under HX4.out hb)
  clear hb
  have k6_5 := cell_blk HX5.out 6 _ rfl
  have k5_5 := cell_blk HX5.out 5 _ rfl
  go_wp2_with fail
  refine (G6.out _ HB5.out).mono ?_
  rintro e W6 ⟨rfl, hb⟩
  have HB6 := hid (HB5.out.trans (hb.mono HB5.out.size))
  have HX6 := hid (blk_under HX5.out hb)
  clear hb
  have k7_6 := cell_blk HX6.out 7 _ rfl
  have k5_6 := cell_blk HX6.out 5 _ rfl
  go_wp2_with fail
  refine (G7.out _ HB6.out).mono ?_
  rintro e W7 ⟨rfl, hb⟩
  have HB7 := hid (HB6.out.trans (hb.mono HB6.out.size))
  have HX7 := hid (blk_under HX6.out hb)
  clear hb
  have k4_7 := cell_blk HX7.out 4 _ rfl
  have k1_7 := cell_blk HX7.out 1 _ rfl
  go_wp2_with fail
  refine (G8.out _ HB7.out).mono ?_
  rintro e W8 ⟨rfl, rfl⟩
  have m1 := cell_blk HX7.out 1 _ rfl
  have m5 := cell_blk HX7.out 5 _ rfl
  have m6 := cell_blk HX7.out 6 _ rfl
  have m7 := cell_blk HX7.out 7 _ rfl
  cases B5
  · have HF : Hid (RB = false) := by
      show _ = _
      rw [Bool.eq_false_iff]
      intro e
      have h9 := HD.out.1 e
      simp at h9
    go_wp2_with fail
    go_ret
    exact ⟨by rw [HF.out]; rfl, HB7.out⟩
  cases B6
  · have HF : Hid (RB = false) := by
      show _ = _
      rw [Bool.eq_false_iff]
      intro e
      have h9 := HD.out.1 e
      simp at h9
    go_wp2_with fail
    go_ret
    exact ⟨by rw [HF.out]; rfl, HB7.out⟩
  cases B7
  · have HF : Hid (RB = false) := by
      show _ = _
      rw [Bool.eq_false_iff]
      intro e
      have h9 := HD.out.1 e
      simp at h9
    go_wp2_with fail
    go_ret
    exact ⟨by rw [HF.out]; rfl, HB7.out⟩
  go_wp2_with fail
  refine (G9.out _ HB7.out).mono ?_
  rintro e W9 ⟨va, vc, rfl, hb⟩
  have HB9 := hid (HB7.out.trans (hb.mono HB7.out.size))
  have HX9 := hid (blk_under HX7.out hb)
  clear hb m1 m5 m6 m7
  have m1 := cell_blk HX9.out 1 _ rfl
  have m5 := cell_blk HX9.out 5 _ rfl
  have m7 := cell_blk HX9.out 7 _ rfl
  by_cases h0 : n9 = 0
  case neg =>
    have h0b : ((n9 : Int) == 0) = false := by simp; omega
    have HF : Hid (RB = false) := by
      show _ = _
      rw [Bool.eq_false_iff]
      intro e
      have h9 := HD.out.1 e
      exact h0 h9.2.2.2.2.2.1
    go_wp2_with fail
    go_ret
    exact ⟨by rw [HF.out]; rfl, HB9.out⟩
  subst h0
  by_cases hl : rem.length < reps.length
  case neg =>
    have hl' : ¬ (rem.length : Int) < (reps.length : Int) := by omega
    have HF : Hid (RB = false) := by
      show _ = _
      rw [Bool.eq_false_iff]
      intro e
      have h9 := HD.out.1 e
      exact hl h9.2.2.2.2.2.2.1
    go_wp2_with fail
    go_ret
    exact ⟨by rw [HF.out]; rfl, HB9.out⟩
  have hl' : (rem.length : Int) < (reps.length : Int) := by omega
  by_cases hz : ld = 0
  · have hzb : (ld == 0) = true := by simp [hz]
    have HT : Hid (RB = true) := HD.out.2 ⟨HNUM.out, by simp [hl, hz]⟩
    clear hz
    go_wp2_with fail
    go_ret
    exact ⟨by rw [HT.out]; rfl, HB9.out⟩
  have hzb : (ld == 0) = false := by simp [hz]
  cases B8
  · have HF : Hid (RB = false) := by
      show _ = _
      rw [Bool.eq_false_iff]
      intro e
      have h9 := (HD.out.1 e).2.2.2.2.2.2.2
      simp [hz] at h9
    go_wp2_with fail
    go_ret
    exact ⟨by rw [HF.out]; rfl, HB9.out⟩
  · have HT : Hid (RB = true) := HD.out.2 ⟨HNUM.out, by simp [hl]⟩
    go_wp2_with fail
    go_ret
    exact ⟨by rw [HT.out]; rfl, HB9.out⟩
end Go.Proofs.Ytfahepeemodcbaa
