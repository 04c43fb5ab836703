/- The document's Right of a message. -/
import Derived.Test.YtocdlaoklagdoaaDoorRb4
namespace Go.Proofs.YtocdlaoklagdoaaDoor
open Go.RowKit Go.Maps
set_option linter.unusedSimpArgs false
set_option linter.unusedVariables false
set_option maxRecDepth 100000

theorem rp_numbers {m : Msg} (h : numbersB m = false) : rightP m = 1 := by unfold rightP; rw [if_pos h]
theorem rp_many {m : Msg} (h : numbersB m = true) (h2 : manyB m = true) : rightP m = 3 := by unfold rightP; rw [if_neg (by simp [h]), if_pos h2]
theorem rp_name {m : Msg} (h : numbersB m = true) (h2 : manyB m = false) (h3 : 32 < m.name.length) : rightP m = 2 := by unfold rightP; rw [if_neg (by simp [h]), if_neg (by simp [h2]), if_pos h3]
theorem rp_rest {m : Msg} (h : numbersB m = true) (h2 : manyB m = false) (h3 : ¬ 32 < m.name.length) : rightP m = if firstE (m.bats.map rightL) = 0 then firstE (m.ents.map entRight) else firstE (m.bats.map rightL) := by unfold rightP; rw [if_neg (by simp [h]), if_neg (by simp [h2]), if_neg h3]
theorem nb_num {m : Msg} (k : Nat) (hk : k < 14) (h : ¬ (-1 ≤ (nums m).getD k 0 ∧ (nums m).getD k 0 ≤ 1000000000)) : numbersB m = false := by
  have hl : k < (nums m).length := hk
  have : (nums m).all numOk = false := by
    rw [List.all_eq_false]
    refine ⟨(nums m)[k], List.getElem_mem hl, ?_⟩
    rw [numOk_iff]
    simpa [List.getD, List.getElem?_eq_getElem hl] using h
  simp [numbersB, this]
theorem nb_all {m : Msg} (h : ∀ k, k < 14 → -1 ≤ (nums m).getD k 0 ∧ (nums m).getD k 0 ≤ 1000000000) (h1 : 1 ≤ m.kind) (h2 : m.kind ≤ 28) (h3 : 0 ≤ m.err) (h4 : m.err ≤ 23) : numbersB m = true := by
  have : (nums m).all numOk = true := by
    rw [List.all_eq_true]
    intro n hn
    obtain ⟨k, hk, rfl⟩ := List.getElem_of_mem hn
    rw [numOk_iff]
    have := h k hk
    simpa [List.getD, List.getElem?_eq_getElem hk] using this
  simp [numbersB, this, h1, h2, h3, h4]
theorem nb_head {m : Msg} (h : m.kind < 1 ∨ 28 < m.kind ∨ m.err < 0 ∨ 23 < m.err) : numbersB m = false := by
  unfold numbersB
  rw [Bool.and_eq_false_iff]
  right
  have : ¬ (1 ≤ m.kind ∧ m.kind ≤ 28 ∧ 0 ≤ m.err ∧ m.err ≤ 23) := by omega
  simp only [Bool.and_eq_false_iff, decide_eq_false_iff_not]
  omega
theorem rm_bad {m : Msg} (h : rightP m ≠ 0) : (rightM m).2 = rightP m := by unfold rightM; rw [if_neg h]
theorem text_in (m : Msg) : m.text.length ≤ (bodyM m).length := by
  have h : m.text.length ≤ (putT m.text).length := by
    unfold putT
    split
    · rename_i h; simp [h]
    · simp [textL]
  simp only [bodyM, partsL, tail14, tail15, tail16, List.length_append]
  omega
theorem rm_ok {m : Msg} (h : rightP m = 0) : (rightM m).2 = if 65528 < (bodyM m).length then 2 else 0 := by
  have := text_in m
  unfold rightM
  rw [if_pos h]
  split
  · rw [if_pos (by omega)]
  · split <;> rfl
theorem body_le (m : Msg) (hP : rightP m = 0) (hT : m.text.length ≤ 65536) : (bodyM m).length ≤ 800000 := by
  obtain ⟨_, hnb, hne, hni, hnn, hrb, hre⟩ := rightP_zero hP
  have := p20_le m hnn hT hnb hne (fun e he => (entRight_ok (hre e he)).2.2.2.2) hni
  rw [p20_eq] at this
  have h1 := intsL_length [m.kind, (sumL m : Int)]
  simp only [List.length_cons, List.length_nil] at h1
  unfold bodyM
  rw [List.length_append]
  omega

/-- What Right looks at in its first loop: the box, the numbers' row. -/
structure RrAt (w : World) (A N : Array Value) (W : World) : Prop where
  box : Boxed w W (.cells A 27)
  row : W.heap[w.heap.size + 2]? = some (.cells N 3)
theorem RrAt.laid (w : World) (A N : Array Value) : RrAt w A N (((w.alloc (.cells A 27)).alloc (.cells A 27)).alloc (.cells N 3)) := by
  refine ⟨((Boxed.laid w (.cells A 27)).next ((Below.refl _ _).alloc (Nat.le_refl _) (.cells A 27))).next ((Below.refl _ _).alloc (Nat.le_refl _) (.cells N 3)), ?_⟩
  have := heap_alloc_new ((w.alloc (.cells A 27)).alloc (.cells A 27)) (.cells N 3)
  have z : ((w.alloc (.cells A 27)).alloc (.cells A 27)).heap.size = w.heap.size + 2 := by simp
  rw [z] at this
  exact this

set_option maxHeartbeats 6400000 in
theorem refright4_any {w : World} (m : Msg) (ba : Option Addr) (bc : Nat) (ea : Option Addr) (ec : Nat) (ia : Option Addr) (ic : Nat) (hok : m.ok) (hh : Here w m ba ea ia) :
    Calls Tryd.prog 12 #[.agg #[.int .i64 m.kind, .int .i64 m.n0, .int .i64 m.n1, .int .i64 m.n2, .int .i64 m.n3, .int .i64 m.n4, .int .i64 m.n5, .int .i64 m.n6, .int .i64 m.n7, .int .i64 m.n8, .int .i64 m.n9, .int .i64 m.n10, .int .i64 m.n11, .int .i64 m.n12, .int .i64 m.n13, .int .i64 m.err, .string (strOf m.name), .string (strOf m.text), .slice ba m.bats.length bc, .slice ea m.ents.length ec, .slice ia m.ints.length ic]] w fun e w' => e = .returned (.int .i64 (rightM m).2) ∧ Below w.heap.size w w' := by
  have l1 := hok.batsLen
  have l2 := hok.entsLen
  have l3 := hok.intsLen
  have l4 := hok.name
  have l5 := hok.text
  unfold maxLen at l1 l2 l3 l4 l5
  have hsn := strOf_size m.name
  have hst := strOf_size m.text
  have X0 := hid (Boxed.laid w (.cells #[.int .i64 m.kind, .int .i64 m.n0, .int .i64 m.n1, .int .i64 m.n2, .int .i64 m.n3, .int .i64 m.n4, .int .i64 m.n5, .int .i64 m.n6, .int .i64 m.n7, .int .i64 m.n8, .int .i64 m.n9, .int .i64 m.n10, .int .i64 m.n11, .int .i64 m.n12, .int .i64 m.n13, .int .i64 m.err, .string (strOf m.name), .string (strOf m.text), .slice ba m.bats.length bc, .slice ea m.ents.length ec, .slice ia m.ints.length ic] 27))
  have BX := hid X0.out.box
  have H25 := hid (fun W => rnumbers_any m.kind m.n0 m.n1 m.n2 m.n3 m.n4 m.n5 m.n6 m.n7 m.n8 m.n9 m.n10 m.n11 m.n12 m.n13 m.err (strOf m.name) (strOf m.text) ba ea ia m.bats.length bc m.ents.length ec m.ints.length ic W)
  have HH := hid hh
  have HOK := hid hok
  have H24 : Hid (∀ W : World, Below w.heap.size w W → rightP m = 0 → m.text.length ≤ 65536 → Calls Tryd.prog 24 #[.agg #[.int .i64 m.kind, .int .i64 m.n0, .int .i64 m.n1, .int .i64 m.n2, .int .i64 m.n3, .int .i64 m.n4, .int .i64 m.n5, .int .i64 m.n6, .int .i64 m.n7, .int .i64 m.n8, .int .i64 m.n9, .int .i64 m.n10, .int .i64 m.n11, .int .i64 m.n12, .int .i64 m.n13, .int .i64 m.err, .string (strOf m.name), .string (strOf m.text), .slice ba m.bats.length bc, .slice ea m.ents.length ec, .slice ia m.ints.length ic]] W fun e w' => e = .returned (.string (strOf (bodyM m))) ∧ Below W.heap.size W w') := fun W h h1 h2 => refbody_any (w := W) m ba bc ea ec ia ic hok (hh.under h) h1 h2
  have HL : Hid (∀ i, i < 14 → (#[.int .i64 m.n0, .int .i64 m.n1, .int .i64 m.n2, .int .i64 m.n3, .int .i64 m.n4, .int .i64 m.n5, .int .i64 m.n6, .int .i64 m.n7, .int .i64 m.n8, .int .i64 m.n9, .int .i64 m.n10, .int .i64 m.n11, .int .i64 m.n12, .int .i64 m.n13] : Array Value)[i]? = some (.int .i64 ((nums m).getD i 0))) := fun i hi => by
    have h : i = 0 ∨ i = 1 ∨ i = 2 ∨ i = 3 ∨ i = 4 ∨ i = 5 ∨ i = 6 ∨ i = 7 ∨ i = 8 ∨ i = 9 ∨ i = 10 ∨ i = 11 ∨ i = 12 ∨ i = 13 := by omega
    rcases h with rfl | rfl | rfl | rfl | rfl | rfl | rfl | rfl | rfl | rfl | rfl | rfl | rfl | rfl <;> rfl
  have R0 := hid (RrAt.laid w #[.int .i64 m.kind, .int .i64 m.n0, .int .i64 m.n1, .int .i64 m.n2, .int .i64 m.n3, .int .i64 m.n4, .int .i64 m.n5, .int .i64 m.n6, .int .i64 m.n7, .int .i64 m.n8, .int .i64 m.n9, .int .i64 m.n10, .int .i64 m.n11, .int .i64 m.n12, .int .i64 m.n13, .int .i64 m.err, .string (strOf m.name), .string (strOf m.text), .slice ba m.bats.length bc, .slice ea m.ents.length ec, .slice ia m.ints.length ic] #[.int .i64 m.n0, .int .i64 m.n1, .int .i64 m.n2, .int .i64 m.n3, .int .i64 m.n4, .int .i64 m.n5, .int .i64 m.n6, .int .i64 m.n7, .int .i64 m.n8, .int .i64 m.n9, .int .i64 m.n10, .int .i64 m.n11, .int .i64 m.n12, .int .i64 m.n13])
  have c0 := cell_blk X0.out.box 0 _ rfl
  have c15 := cell_blk X0.out.box 15 _ rfl
  obtain ⟨E, hE⟩ : ∃ E, E = (rightM m).2 := ⟨_, rfl⟩
  have HE := hid hE
  rw [← hE]
  clear hok hh hE
  by_cases k1 : m.kind < 1
  case pos =>
    have hF : E = 1 := by rw [HE.out, rm_bad (by rw [rp_numbers (nb_head (by omega))]; decide), rp_numbers (nb_head (by omega))]
    subst hF
    go_enter Tryd.func12, Tryd.ntmps12
    go_wp2
    go_ret
    exact ⟨rfl, X0.out.below⟩
  by_cases k2 : 28 < m.kind
  case pos =>
    have hF : E = 1 := by rw [HE.out, rm_bad (by rw [rp_numbers (nb_head (by omega))]; decide), rp_numbers (nb_head (by omega))]
    subst hF
    go_enter Tryd.func12, Tryd.ntmps12
    go_wp2
    go_ret
    exact ⟨rfl, X0.out.below⟩
  by_cases k3 : m.err < 0
  case pos =>
    have hF : E = 1 := by rw [HE.out, rm_bad (by rw [rp_numbers (nb_head (by omega))]; decide), rp_numbers (nb_head (by omega))]
    subst hF
    go_enter Tryd.func12, Tryd.ntmps12
    go_wp2
    go_ret
    exact ⟨rfl, X0.out.below⟩
  by_cases k4 : 23 < m.err
  case pos =>
    have hF : E = 1 := by rw [HE.out, rm_bad (by rw [rp_numbers (nb_head (by omega))]; decide), rp_numbers (nb_head (by omega))]
    subst hF
    go_enter Tryd.func12, Tryd.ntmps12
    go_wp2
    go_ret
    exact ⟨rfl, X0.out.below⟩
  go_enter Tryd.func12, Tryd.ntmps12
  go_wp2_with (first | (refine wpList_load_row rfl 27 _ rfl w.heap.size rfl 27 _ (0, 0) _ BX.out Tryd.underlying27 rfl size27 ?_) | fail)
  refine (H25.out _).mono ?_
  rintro e w1 ⟨rfl, rfl⟩
  clear c0 c15 BX
  go_wp2_with fail
  have HK := hid (And.intro k1 (And.intro k2 (And.intro k3 k4)))
  clear k1 k2 k3 k4 X0 H25
  go_loopw [4] (fun i wr => ∃ j : Nat, j ≤ 14 ∧ i = .int .i64 j ∧ Hid (RrAt w #[.int .i64 m.kind, .int .i64 m.n0, .int .i64 m.n1, .int .i64 m.n2, .int .i64 m.n3, .int .i64 m.n4, .int .i64 m.n5, .int .i64 m.n6, .int .i64 m.n7, .int .i64 m.n8, .int .i64 m.n9, .int .i64 m.n10, .int .i64 m.n11, .int .i64 m.n12, .int .i64 m.n13, .int .i64 m.err, .string (strOf m.name), .string (strOf m.text), .slice ba m.bats.length bc, .slice ea m.ents.length ec, .slice ia m.ints.length ic] #[.int .i64 m.n0, .int .i64 m.n1, .int .i64 m.n2, .int .i64 m.n3, .int .i64 m.n4, .int .i64 m.n5, .int .i64 m.n6, .int .i64 m.n7, .int .i64 m.n8, .int .i64 m.n9, .int .i64 m.n10, .int .i64 m.n11, .int .i64 m.n12, .int .i64 m.n13] wr ∧ ∀ t, t < j → -1 ≤ (nums m).getD t 0 ∧ (nums m).getD t 0 ≤ 1000000000)) (fun i _ => 14 - (intOf i).toNat)
  case atStart => exact ⟨0, by omega, rfl, R0.out, fun t ht => by omega⟩
  case round =>
    obtain ⟨j, hj, rfl, HD⟩ := hrel
    clear R0
    by_cases hlt : j < 14
    · have hlt' : (j : Int) < 14 := by omega
      have i0 : (0 : Int) ≤ (j : Int) := by omega
      have c0 := cell_blk HD.out.1.row j _ (HL.out j hlt)
      have hbad : Hid (¬ (-1 ≤ (nums m).getD j 0 ∧ (nums m).getD j 0 ≤ 1000000000) → E = 1) := fun h => by
        have hb := rp_numbers (nb_num j hlt h)
        rw [HE.out, rm_bad (by rw [hb]; decide), hb]
      have hnx : Hid (-1 ≤ (nums m).getD j 0 ∧ (nums m).getD j 0 ≤ 1000000000 → ∀ t, t < j + 1 → -1 ≤ (nums m).getD t 0 ∧ (nums m).getD t 0 ≤ 1000000000) := fun h t ht => by
        by_cases e : t = j
        · subst e; exact h
        · exact HD.out.2 t (by omega)
      generalize (nums m).getD j 0 = V at *
      by_cases v1 : V < -1
      · have hF := hbad.out (by omega)
        subst hF
        go_wp2
        go_ret
        exact ⟨rfl, HD.out.1.box.below⟩
      by_cases v2 : 1000000000 < V
      · have hF := hbad.out (by omega)
        subst hF
        go_wp2
        go_ret
        exact ⟨rfl, HD.out.1.box.below⟩
      have HN := hid (hnx.out (by omega))
      go_wp2
      go_roundw
      case rel => exact ⟨j + 1, by omega, by go_num, HD.out.1, HN.out⟩
      case measure => simp [intOf]; omega
    · have hlt' : ¬ (j : Int) < 14 := by omega
      have HNB : Hid (numbersB m = true) := nb_all (fun k hk => HD.out.2 k (by omega)) (by have := HK.out; omega) (by have := HK.out; omega) (by have := HK.out; omega) (by have := HK.out; omega)
      have HB := hid HD.out.1.box
      have d16 := cell_blk HB.out.box 16 _ rfl
      have d18 := cell_blk HB.out.box 18 _ rfl
      have d19 := cell_blk HB.out.box 19 _ rfl
      have d20 := cell_blk HB.out.box 20 _ rfl
      clear HD HL HK
      have hmany : Hid ((64 < m.bats.length ∨ 64 < m.ents.length ∨ 256 < m.ints.length) → E = 3) := fun h => by
        have hb : rightP m = 3 := rp_many HNB.out (by
          simp only [manyB, Bool.or_eq_true, decide_eq_true_eq]
          omega)
        rw [HE.out, rm_bad (by rw [hb]; decide), hb]
      by_cases b1 : 64 < m.bats.length
      case pos =>
        have hF := hmany.out (by omega)
        subst hF
        have q : (64 : Int) < (m.bats.length : Int) := by omega
        go_wp2
        go_ret
        exact ⟨rfl, HB.out.below⟩
      have q1 : ¬ (64 : Int) < (m.bats.length : Int) := by omega
      by_cases b2 : 64 < m.ents.length
      case pos =>
        have hF := hmany.out (by omega)
        subst hF
        have q : (64 : Int) < (m.ents.length : Int) := by omega
        go_wp2
        go_ret
        exact ⟨rfl, HB.out.below⟩
      have q2 : ¬ (64 : Int) < (m.ents.length : Int) := by omega
      by_cases b3 : 256 < m.ints.length
      case pos =>
        have hF := hmany.out (by omega)
        subst hF
        have q : (256 : Int) < (m.ints.length : Int) := by omega
        go_wp2
        go_ret
        exact ⟨rfl, HB.out.below⟩
      have q3 : ¬ (256 : Int) < (m.ints.length : Int) := by omega
      have HM : Hid (manyB m = false) := by
        show _ = _
        simp only [manyB, Bool.or_eq_false_iff, decide_eq_false_iff_not]
        omega
      by_cases b4 : 32 < m.name.length
      case pos =>
        have hb := rp_name HNB.out HM.out b4
        have hF : E = 2 := by rw [HE.out, rm_bad (by rw [hb]; decide), hb]
        subst hF
        have q : (32 : Int) < (m.name.length : Int) := by omega
        go_wp2
        go_ret
        exact ⟨rfl, HB.out.below⟩
      have q4 : ¬ (32 : Int) < (m.name.length : Int) := by omega
      have HR := hid (rp_rest HNB.out HM.out b4)
      clear hmany HM HNB
      go_wp2_with fail
      go_loopw [5] (fun i wx => ∃ k : Nat, k ≤ m.bats.length ∧ i = .int .i64 k ∧ Hid (Boxed w wx (.cells #[.int .i64 m.kind, .int .i64 m.n0, .int .i64 m.n1, .int .i64 m.n2, .int .i64 m.n3, .int .i64 m.n4, .int .i64 m.n5, .int .i64 m.n6, .int .i64 m.n7, .int .i64 m.n8, .int .i64 m.n9, .int .i64 m.n10, .int .i64 m.n11, .int .i64 m.n12, .int .i64 m.n13, .int .i64 m.err, .string (strOf m.name), .string (strOf m.text), .slice ba m.bats.length bc, .slice ea m.ents.length ec, .slice ia m.ints.length ic] 27) ∧ ∀ i (h : i < m.bats.length), i < k → rightL m.bats[i] = 0)) (fun i _ => m.bats.length - (intOf i).toNat)
      case atStart => exact ⟨0, by omega, rfl, HB.out, fun t h ht => by omega⟩
      case round =>
        obtain ⟨k, hk, rfl, HD⟩ := hrel
        clear d16 d18 d19 d20 HB hlt' hlt
        have d18 := cell_blk HD.out.1.box 18 _ rfl
        by_cases hlt : k < m.bats.length
        · have hlt' : (k : Int) < (m.bats.length : Int) := by omega
          have i0 : (0 : Int) ≤ (k : Int) := by omega
          obtain ⟨g1, o1, ra, rc, h1, ⟨s0, s1, s2, s3, s4, s5⟩, hr1⟩ := (HH.out.bats.under HD.out.1.below).at k hlt
          subst h1
          have H26 := hid (rright_any m.bats[k] ra rc hr1 (HOK.out.bats _ (List.getElem_mem hlt)))
          have hbad : Hid (rightL m.bats[k] ≠ 0 → E = rightL m.bats[k]) := fun h => by
            have e1 := first_at rightL m.bats k hlt HD.out.2 h
            have e2 := HR.out
            rw [e1, if_neg h] at e2
            rw [HE.out, rm_bad (by rw [e2]; exact h), e2]
          have hnx : Hid (rightL m.bats[k] = 0 → ∀ i (h : i < m.bats.length), i < k + 1 → rightL m.bats[i] = 0) := fun h i hi hik => by
            by_cases e : i = k
            · subst e; exact h
            · exact HD.out.2 i hi (by omega)
          clear hr1
          generalize m.bats[k].base = u0 at *
          generalize m.bats[k].epoch = u1 at *
          generalize m.bats[k].pid = u2 at *
          generalize m.bats[k].pidEpoch = u3 at *
          generalize m.bats[k].seq = u4 at *
          generalize m.bats[k].recs.length = u5 at *
          generalize rightL m.bats[k] = V at *
          by_cases hV : V = 0
          · subst hV
            have HN := hid (hnx.out rfl)
            clear hnx hbad
            go_wp2_with (go_at_call 26; refine H26.out.mono ?_; rintro e w6 ⟨rfl, hb6⟩)
            go_roundw
            case rel => exact ⟨k + 1, by omega, by go_num, HD.out.1.next hb6, HN.out⟩
            case measure => simp [intOf]; omega
          · have q : (V != 0) = true := by simpa using hV
            have hF := hbad.out hV
            subst hF
            clear hnx hbad
            go_wp2_with (go_at_call 26; refine H26.out.mono ?_; rintro e w6 ⟨rfl, hb6⟩)
            go_ret
            exact ⟨rfl, (HD.out.1.next hb6).below⟩
        · have hlt' : ¬ (k : Int) < (m.bats.length : Int) := by omega
          have HR2 : Hid (rightP m = firstE (m.ents.map entRight)) := by
            have e := HR.out
            rw [first_none rightL m.bats (fun i hi => HD.out.2 i hi (by omega)), if_pos rfl] at e
            exact e
          have HB := hid HD.out.1
          clear HR HD
          go_wp2_with fail
          go_loopw [7] (fun i wx => ∃ k : Nat, k ≤ m.ents.length ∧ i = .int .i64 k ∧ Hid (Boxed w wx (.cells #[.int .i64 m.kind, .int .i64 m.n0, .int .i64 m.n1, .int .i64 m.n2, .int .i64 m.n3, .int .i64 m.n4, .int .i64 m.n5, .int .i64 m.n6, .int .i64 m.n7, .int .i64 m.n8, .int .i64 m.n9, .int .i64 m.n10, .int .i64 m.n11, .int .i64 m.n12, .int .i64 m.n13, .int .i64 m.err, .string (strOf m.name), .string (strOf m.text), .slice ba m.bats.length bc, .slice ea m.ents.length ec, .slice ia m.ints.length ic] 27) ∧ ∀ i (h : i < m.ents.length), i < k → entRight m.ents[i] = 0)) (fun i _ => m.ents.length - (intOf i).toNat)
          case atStart => exact ⟨0, by omega, rfl, HB.out, fun t h ht => by omega⟩
          case round =>
            obtain ⟨k, hk, rfl, HD⟩ := hrel
            clear d18 HB hlt' hlt
            have d19 := cell_blk HD.out.1.box 19 _ rfl
            by_cases hlt : k < m.ents.length
            · have hlt' : (k : Int) < (m.ents.length : Int) := by omega
              have i0 : (0 : Int) ≤ (k : Int) := by omega
              obtain ⟨g1, o1, h1, s0, s1, s2⟩ := (HH.out.ents.under HD.out.1.below).at k hlt
              subst h1
              have hbad : Hid (entRight m.ents[k] ≠ 0 → E = entRight m.ents[k]) := fun h => by
                have e1 := first_at entRight m.ents k hlt HD.out.2 h
                have e2 := HR2.out
                rw [e1] at e2
                rw [HE.out, rm_bad (by rw [e2]; exact h), e2]
              have hnx : Hid (entRight m.ents[k] = 0 → ∀ i (h : i < m.ents.length), i < k + 1 → entRight m.ents[i] = 0) := fun h i hi hik => by
                by_cases e : i = k
                · subst e; exact h
                · exact HD.out.2 i hi (by omega)
              have hdl := (HOK.out.ents _ (List.getElem_mem hlt)).2.2
              unfold maxLen at hdl
              generalize m.ents[k] = R at *
              have hsd := strOf_size R.data
              have B9 := hid (HD.out.1.next ((Below.refl _ _).alloc (Nat.le_refl _) (.cells #[.int .i64 R.term, .int .i64 R.index, .string (strOf R.data)] 52)))
              have hone : Hid ((R.term < 0 ∨ 1000000000 < R.term ∨ R.index < 0 ∨ 1000000000 < R.index) → entRight R = 1) := fun h => by unfold entRight; rw [if_pos h]
              have htwo : Hid (¬ (R.term < 0 ∨ 1000000000 < R.term ∨ R.index < 0 ∨ 1000000000 < R.index) → entRight R = if 2048 < R.data.length then 2 else 0) := fun h => by unfold entRight; rw [if_neg h]
              by_cases v1 : R.term < 0
              · have hF : E = 1 := by have e := hone.out (by omega); rw [hbad.out (by rw [e]; decide), e]
                subst hF
                clear hbad hnx hone htwo
                go_wp2
                go_ret
                exact ⟨rfl, B9.out.below⟩
              by_cases v2 : 1000000000 < R.term
              · have hF : E = 1 := by have e := hone.out (by omega); rw [hbad.out (by rw [e]; decide), e]
                subst hF
                clear hbad hnx hone htwo
                go_wp2
                go_ret
                exact ⟨rfl, B9.out.below⟩
              by_cases v3 : R.index < 0
              · have hF : E = 1 := by have e := hone.out (by omega); rw [hbad.out (by rw [e]; decide), e]
                subst hF
                clear hbad hnx hone htwo
                go_wp2
                go_ret
                exact ⟨rfl, B9.out.below⟩
              by_cases v4 : 1000000000 < R.index
              · have hF : E = 1 := by have e := hone.out (by omega); rw [hbad.out (by rw [e]; decide), e]
                subst hF
                clear hbad hnx hone htwo
                go_wp2
                go_ret
                exact ⟨rfl, B9.out.below⟩
              have e0 := htwo.out (by omega)
              by_cases v5 : 2048 < R.data.length
              · rw [if_pos v5] at e0
                have hF : E = 2 := by rw [hbad.out (by rw [e0]; decide), e0]
                subst hF
                have q : (2048 : Int) < (R.data.length : Int) := by omega
                clear hbad hnx hone htwo e0
                go_wp2
                go_ret
                exact ⟨rfl, B9.out.below⟩
              rw [if_neg v5] at e0
              have q : ¬ (2048 : Int) < (R.data.length : Int) := by omega
              have HN := hid (hnx.out e0)
              clear hbad hnx hone htwo e0
              go_wp2
              go_roundw
              case rel => exact ⟨k + 1, by omega, by go_num, B9.out, HN.out⟩
              case measure => simp [intOf]; omega
            · have hlt' : ¬ (k : Int) < (m.ents.length : Int) := by omega
              have HP0 : Hid (rightP m = 0) := by
                have e := HR2.out
                rw [first_none entRight m.ents (fun i hi => HD.out.2 i hi (by omega))] at e
                exact e
              have d17 := cell_blk HD.out.1.box 17 _ rfl
              have BX := hid HD.out.1.box
              have hEv := HE.out
              rw [rm_ok HP0.out] at hEv
              have hti := text_in m
              by_cases v1 : 65536 < m.text.length
              · rw [if_pos (by omega)] at hEv
                subst hEv
                have q : (65536 : Int) < (m.text.length : Int) := by omega
                go_wp2
                go_ret
                exact ⟨rfl, HD.out.1.below⟩
              have q : ¬ (65536 : Int) < (m.text.length : Int) := by omega
              have HC := hid (H24.out wr HD.out.1.below HP0.out (by omega))
              have hbl := body_le m HP0.out (by omega)
              have hsb := strOf_size (bodyM m)
              by_cases v2 : 65528 < (bodyM m).length
              · rw [if_pos v2] at hEv
                subst hEv
                have q2 : (65536 : Int) < ((bodyM m).length : Int) + 8 := by omega
                generalize bodyM m = BM at *
                go_wp2_with (first | (refine load27_want (by rfl) _ rfl w.heap.size rfl _ BX.out rfl ?_) | (go_at_call 24; refine HC.out.mono ?_; rintro e w6 ⟨rfl, hb6⟩))
                go_ret
                exact ⟨rfl, (HD.out.1.next hb6).below⟩
              · rw [if_neg v2] at hEv
                subst hEv
                have q2 : ¬ (65536 : Int) < ((bodyM m).length : Int) + 8 := by omega
                have q2b : decide ((65536 : Int) < ((bodyM m).length : Int) + 8) = false := decide_eq_false q2
                have hbi : ((bodyM m).length : Int) ≤ 65528 := by omega
                clear v2 hti hbl v1
                generalize bodyM m = BM at *
                go_wp2_with (first | (refine load27_want (by rfl) _ rfl w.heap.size rfl _ BX.out rfl ?_) | (go_at_call 24; refine HC.out.mono ?_; rintro e w6 ⟨rfl, hb6⟩))
                go_ret
                exact ⟨rfl, (HD.out.1.next hb6).below⟩
end Go.Proofs.YtocdlaoklagdoaaDoor
