/- The document's Load: its walk. -/
import Derived.Test.YtkdbclnnmpnfgaaHLc
import Derived.BigQuiet
import Derived.Deep.AppendLies
import Derived.Deep.RegionHeldLaw
import Derived.Deep.CutRange
import Derived.Deep.CutBlock
namespace Go.Proofs.Ytkdbclnnmpnfgaa
open Go.RowKit Go.Maps
set_option maxRecDepth 100000
set_option linter.unusedSimpArgs false
set_option linter.unusedVariables false

theorem rdN_eq (s : RS) : rdN s = (⟨(numS s).1, (numS (numS s).2).1, (numS (numS (numS s).2).2).1, (numS (numS (numS (numS s).2).2).2).1⟩, (numS (numS (numS (numS s).2).2).2).2) := rfl
theorem badX_ok {k : Nat} {was x : Nt} (h : badX k was x = false) : NtOk x := by
  unfold badX at h
  simp only [Bool.or_eq_false_iff, Bool.not_eq_false'] at h
  exact rightNt_ok.1 h.1.1.1
/-- What the document's Load answers. -/
def DLP (w w' : World) (Fail : Prop) (Good : List Mk → Prop) (e : Ending) : Prop :=
  Below w.heap.size w w' ∧ ((Fail ∧ e = .returned (.tuple #[.pointer none, .int .i64 4])) ∨ ∃ ms r v, Good ms ∧ e = .returned (.tuple #[.pointer (some ⟨r, 0, none⟩), .int .i64 0]) ∧ RT w' r v ms ∧ w.heap.size ≤ r ∧ ∀ k, v.ownBlock = some k → w.heap.size ≤ k)
theorem RL.fin {w W : World} {rq r s ms v} (h : RL w W rq r s ms v) (hf : ms.length ≤ 100000) : RT W r v ms ∧ w.heap.size ≤ r ∧ ∀ k, v.ownBlock = some k → w.heap.size ≤ k :=
  ⟨⟨h.cells, World.ownsRow.mono h.row (Nat.zero_le _), hf⟩, h.lo.2, fun k hk => (h.row.lt k hk).1⟩
set_option maxHeartbeats 20000000 in
theorem rload_walk (b : List UInt8) (w : World) (hb : b.length ≤ 90000) (h4 : ¬ b.length < 4) (h6 : fourN b = crcL (b.drop 4)) (n0 : Int) (s0 : RS) (hn0 : numS ⟨b.drop 4, false⟩ = (n0, s0))
    (JO : Nat → Int → List Mk → RS → Prop) (JI : Nat → Int → Int → Nat → Nt → List Mk → RS → Prop) (Fail : Prop) (Good : List Mk → Prop)
    (H0 : JO 0 0 [] s0)
    (H1 : ∀ i last ms s, JO i last ms s → (i : Int) < n0 → s.wrong = false → ((numS s).1 ≤ last ∨ 1000000000 < (numS s).1 ∨ (numS (numS s).2).1 < 1) → Fail)
    (H1' : ∀ i last ms s, JO i last ms s → (i : Int) < n0 → s.wrong = false → ¬ ((numS s).1 ≤ last ∨ 1000000000 < (numS s).1 ∨ (numS (numS s).2).1 < 1) → JI i (numS s).1 (numS (numS s).2).1 0 was0 ms (numS (numS s).2).2)
    (H2 : ∀ i pid n k was ms s, JI i pid n k was ms s → (k : Int) < n → s.wrong = false → badX k was (rdN s).1 = true → Fail)
    (H2' : ∀ i pid n k was ms s, JI i pid n k was ms s → (k : Int) < n → s.wrong = false → badX k was (rdN s).1 = false → JI i pid n (k + 1) (rdN s).1 (ms ++ [(pid, (rdN s).1)]) (rdN s).2)
    (H3 : ∀ i pid n k was ms s, JI i pid n k was ms s → ¬ ((k : Int) < n ∧ s.wrong = false) → JO (i + 1) pid ms s)
    (H4 : ∀ i last ms s, JO i last ms s → ¬ ((i : Int) < n0 ∧ s.wrong = false) → (s.wrong = true ∨ s.rest ≠ [] ∨ n0 < 0) → Fail)
    (H5 : ∀ i last ms s, JO i last ms s → ¬ ((i : Int) < n0 ∧ s.wrong = false) → s.wrong = false → s.rest = [] → 0 ≤ n0 → Good ms) :
    Calls Try.prog 25 #[.string (strOf b)] w fun e w' => DLP w w' Fail Good e := by
  have hsz := strOf_size b
  have h4' : ¬ ((strOf b).size : Int) < 4 := by omega
  have h4'' : ¬ (b.length : Int) < 4 := by omega
  have hx := extract_drop b 4
  have hx2 := extract_take b 4
  have h5 : (4 : Int) ≤ ((strOf b).size : Int) := by omega
  have h5' : (4 : Int) ≤ (b.length : Int) := by omega
  have hdl : (strOf (b.drop 4)).size ≤ maxLen := by rw [strOf_size, List.length_drop]; unfold maxLen; omega
  have HC : Hid (∀ W, Calls Try.prog 24 #[.string (strOf (b.drop 4))] W fun e w' => e = .returned (.int .i64 (crcL (b.drop 4) : Nat)) ∧ W = w') := fun W => by
    have := rcrc_any (strOf (b.drop 4)) W hdl
    rw [strOf_data] at this
    exact this
  have HF : Hid (∀ W, Calls Try.prog 23 #[.int .i64 (crcL (b.drop 4) : Nat)] W fun e w' => e = .returned (.string (strOf (fourL (crcL (b.drop 4))))) ∧ Below W.heap.size W w') := fun W => rfour_any _ W (crcL_lt _)
  have hq : fourL (crcL (b.drop 4)) = b.take 4 := by
    have := four_inv b (by omega)
    rw [h6] at this
    have h9 := congrArg (List.take 4) this
    rw [h9]
    exact (List.take_left' rfl).symm
  have hst : ((strOf (fourL (crcL (b.drop 4)))).toList == (strOf (b.take 4)).toList) = true := by rw [hq]; simp
  generalize crcL (b.drop 4) = C at *
  clear h6 hq h4
  have hdl2 : (b.drop 4).length ≤ maxLen := by rw [List.length_drop]; unfold maxLen; omega
  have hLL : (b.drop 4).length ≤ 90000 := by rw [List.length_drop]; omega
  go_enter Try.func25, Try.ntmps25
  go_wp2_with fail
  go_region_with (first
    | (go_at_call 24; refine (HC.out _).mono ?_; rintro e w1 ⟨rfl, rfl⟩)
    | (go_at_call 23; refine (HF.out _).mono ?_; rintro e w2 ⟨rfl, hb2⟩)
    | fail)
  all_goals
    have hB2 : Below w.heap.size w w2 := (by first | exact (Below.refl _ _).drew.trans hb2 | exact (below_drewN (Below.refl _ _) _).trans hb2)
    have HR0 : Hid (RL w ((w2.alloc (.cells #[.string (strOf (b.drop 4)), .bool false] 96)).alloc (.cells #[.slice none 0 0] 58)) w2.heap.size (w2.heap.size + 1) ⟨b.drop 4, false⟩ [] (.slice none 0 0)) := by
      have hz : (w2.alloc (.cells #[.string (strOf (b.drop 4)), .bool false] 96)).heap.size = w2.heap.size + 1 := by simp
      have hs2 := hB2.size
      refine ⟨⟨blk_alloc (heap_alloc_new w2 _) _, hdl2⟩, ?_, ML.nil _ _, (by intro k hk; cases hk), by omega, ⟨hs2, by omega⟩, (hB2.alloc hs2 _).alloc (by rw [hz]; omega) _⟩
      have := heap_alloc_new (w2.alloc (.cells #[.string (strOf (b.drop 4)), .bool false] 96)) (.cells #[.slice none 0 0] 58)
      rw [hz] at this
      exact this
    have hL0 : leftN s0 ≤ (b.drop 4).length + 1 := by
      have := num_left_le ⟨b.drop 4, false⟩
      rw [hn0] at this
      simpa [leftN] using this
    have hL1 : s0.rest.length ≤ (b.drop 4).length := by
      have := num_len ⟨b.drop 4, false⟩
      rw [hn0] at this
      exact this
    have HNm := hid HR0.out.num
    rw [hn0] at HNm
    have hn0r : I64 n0 := by have := numI64 ⟨b.drop 4, false⟩; rw [hn0] at this; exact this
    obtain ⟨hr1, hr2⟩ := hn0r
    have G1 := hid H1
    have G1' := hid H1'
    have G2 := hid H2
    have G2' := hid H2'
    have G3 := hid H3
    have G4 := hid H4
    have G5 := hid H5
    have G0 := hid H0
    clear hB2 hb2 HR0 H0 H1 H1' H2 H2' H3 H4 H5 HC HF hst hn0
    generalize (b.drop 4).length = L at *
    go_wp2_with fail
    have hz2 : (w2.alloc (.cells #[.string (strOf (b.drop 4)), .bool false] 96)).heap.size = w2.heap.size + 1 := by simp
    try rw [hz2]
    clear hz2
    refine HNm.out.mono ?_
    rintro e w4 ⟨rfl, hr4, _⟩
    generalize w2.heap.size + 1 = r at *
    generalize w2.heap.size = rq at *
    have HR4 := hid hr4
    clear hr4 HNm
    go_wp2_with fail
    go_loopg [7, 8] (L + 1) (fun kx s7 s8 wr => ∃ (i : Nat) (last : Int) (ms : List Mk) (s : RS) (v : Value), leftN s ≤ kx ∧ i + leftN s ≤ L + 2 ∧ ((s.wrong = false → ms.length + s.rest.length ≤ L) ∧ ms.length ≤ L + 1) ∧ s7 = .int .i64 last ∧ s8 = .int .i64 (i : Int) ∧ Hid (JO i last ms s ∧ RL w wr rq r s ms v))
    case atStart => exact ⟨0, 0, [], s0, _, hL0, by omega, ⟨fun _ => by simpa using hL1, by simp⟩, rfl, rfl, G0.out, HR4.out⟩
    case round =>
      obtain ⟨i, last, ms, s, v, hkx, hil, hms, rfl, rfl, HI⟩ := hrel
      clear G0 HR4
      obtain ⟨hc0, hc1, hc2, hf2⟩ := HI.out.2.c
      by_cases hgo : (i : Int) < n0 ∧ s.wrong = false
      · obtain ⟨hi1, hi2⟩ := hgo
        rw [hi2] at hc1
        have HN1 := hid HI.out.2.num
        have HN2 : Hid (∀ W, RL w W rq r (numS s).2 ms v → Calls Try.prog 53 #[.pointer (some ⟨rq, 0, none⟩)] W fun e w' => e = .returned (.int .i64 (numS (numS s).2).1) ∧ RL w w' rq r (numS (numS s).2).2 ms v ∧ W.grownBy w' (some rq)) := fun W h => h.num
        have HG1 := hid (G1.out i last ms s HI.out.1 hi1 hi2)
        have HG1' := hid (G1'.out i last ms s HI.out.1 hi1 hi2)
        have hp1 := numI64 s
        have hp2 := numI64 (numS s).2
        have hlt1 := num_left s hi2
        have hlt2 := num_left_le (numS s).2
        have hln : (numS (numS s).2).2.rest.length ≤ s.rest.length := Nat.le_trans (num_len _) (num_len _)
        have hms1 := hms.1 hi2
        generalize numS (numS s).2 = B2 at *
        generalize numS s = B1 at *
        obtain ⟨pid, s1⟩ := B1
        obtain ⟨n, s2⟩ := B2
        simp only at *
        obtain ⟨hp1a, hp1b⟩ := hp1
        obtain ⟨hp2a, hp2b⟩ := hp2
        go_wp2_with fail
        refine HN1.out.mono ?_
        rintro e w5 ⟨rfl, hR5, _⟩
        have H53 := hid (HN2.out w5 hR5)
        clear hR5 HN1 HN2 hc0 hc1 hc2 hf2 HI
        go_wp2_with fail
        refine H53.out.mono ?_
        rintro e w6 ⟨rfl, hR6, _⟩
        have HR6 := hid hR6
        clear hR6 H53
        by_cases d0 : pid ≤ last
        · go_wp2_with fail
          go_ret2
          exact ⟨HR6.out.below, .inl ⟨HG1.out (.inl d0), rfl⟩⟩
        by_cases d1 : 1000000000 < pid
        · go_wp2_with fail
          go_ret2
          exact ⟨HR6.out.below, .inl ⟨HG1.out (.inr (.inl d1)), rfl⟩⟩
        by_cases d2 : n < 1
        · go_wp2_with fail
          go_ret2
          exact ⟨HR6.out.below, .inl ⟨HG1.out (.inr (.inr d2)), rfl⟩⟩
        have HJ0 := hid (HG1'.out (by omega))
        have HW0 := hid (HR6.out.was #[.int .i64 0, .int .i64 0, .int .i64 0, .int .i64 0, .int .i64 (-1)])
        clear HG1 HG1' HR6
        go_wp2_with fail
        obtain ⟨pw, hpw⟩ : ∃ pw, pw = w6.heap.size := ⟨_, rfl⟩
        rw [← hpw] at HW0 ⊢
        clear hpw
        go_loopg [12] (leftN s2) (fun kx s12 wr2 => ∃ (k : Nat) (was : Nt) (wp : Int) (ms' : List Mk) (s' : RS) (v' : Value), leftN s' ≤ kx ∧ leftN s' ≤ leftN s2 ∧ k + leftN s' ≤ L + 2 ∧ ((s'.wrong = false → ms'.length + s'.rest.length ≤ L) ∧ ms'.length ≤ L + 1) ∧ s12 = .int .i64 (k : Int) ∧ (0 < k → NtOk was) ∧ Hid (JI i pid n k was ms' s' ∧ R1x w wr2 rq r s' ms' v' pw #[.int .i64 wp, .int .i64 was.ep, .int .i64 was.seq, .int .i64 was.n, .int .i64 was.off]))
        case atStart => exact ⟨0, was0, 0, ms, s2, v, Nat.le_refl _, Nat.le_refl _, by omega, ⟨fun _ => by omega, hms.2⟩, rfl, fun h => by omega, HJ0.out, HW0.out⟩
        case round =>
          obtain ⟨k, was, wp, ms, s, v, hkx2, hl2, hkl, hms', rfl, hwk, HI⟩ := hrel
          clear HJ0 HW0
          obtain ⟨hc0, hc1, hc2, hf2⟩ := HI.out.2.rl.c
          by_cases hgo : (k : Int) < n ∧ s.wrong = false
          · obtain ⟨hk1, hk2⟩ := hgo
            rw [hk2] at hc1
            have HX0 := hid (HI.out.2.next #[.int .i64 pid, .int .i64 0, .int .i64 0, .int .i64 0, .int .i64 0])
            have HG2 := hid (G2.out i pid n k was ms s HI.out.1 hk1 hk2)
            have HG2' := hid (G2'.out i pid n k was ms s HI.out.1 hk1 hk2)
            have hlt1 := num_left s hk2
            have hlt2 := num_left_le (numS s).2
            have hlt3 := num_left_le (numS (numS s).2).2
            have hlt4 := num_left_le (numS (numS (numS s).2).2).2
            have hle4 : (rdN s).2.rest.length ≤ s.rest.length := Nat.le_trans (num_len _) (Nat.le_trans (num_len _) (Nat.le_trans (num_len _) (num_len _)))
            have hcnt : (rdN s).2.wrong = false → (rdN s).2.rest.length + 1 ≤ s.rest.length := fun hw => by
              have h1 := congrArg List.length (rdN_inv hw).2
              have h2 := (intL_length (rdN s).1.ep).1
              simp only [noteB, intsL, List.length_append] at h1
              omega
            have i1 := numI64 s
            have i2 := numI64 (numS s).2
            have i3 := numI64 (numS (numS s).2).2
            have i4 := numI64 (numS (numS (numS s).2).2).2
            rw [rdN_eq] at HG2 HG2' hle4 hcnt
            have HN1 : Hid (∀ W, R2x w W rq r s ms v pw #[.int .i64 wp, .int .i64 was.ep, .int .i64 was.seq, .int .i64 was.n, .int .i64 was.off] wr.heap.size #[.int .i64 pid, .int .i64 0, .int .i64 0, .int .i64 0, .int .i64 0] → Calls Try.prog 53 #[.pointer (some ⟨rq, 0, none⟩)] W fun e w' => e = .returned (.int .i64 (numS s).1) ∧ R2x w w' rq r (numS s).2 ms v pw #[.int .i64 wp, .int .i64 was.ep, .int .i64 was.seq, .int .i64 was.n, .int .i64 was.off] wr.heap.size #[.int .i64 pid, .int .i64 0, .int .i64 0, .int .i64 0, .int .i64 0]) := fun W h => h.num
            have HN2 : Hid (∀ W xe, R2x w W rq r (numS s).2 ms v pw #[.int .i64 wp, .int .i64 was.ep, .int .i64 was.seq, .int .i64 was.n, .int .i64 was.off] wr.heap.size #[.int .i64 pid, .int .i64 xe, .int .i64 0, .int .i64 0, .int .i64 0] → Calls Try.prog 53 #[.pointer (some ⟨rq, 0, none⟩)] W fun e w' => e = .returned (.int .i64 (numS (numS s).2).1) ∧ R2x w w' rq r (numS (numS s).2).2 ms v pw #[.int .i64 wp, .int .i64 was.ep, .int .i64 was.seq, .int .i64 was.n, .int .i64 was.off] wr.heap.size #[.int .i64 pid, .int .i64 xe, .int .i64 0, .int .i64 0, .int .i64 0]) := fun W xe h => h.num
            have HN3 : Hid (∀ W xe xs, R2x w W rq r (numS (numS s).2).2 ms v pw #[.int .i64 wp, .int .i64 was.ep, .int .i64 was.seq, .int .i64 was.n, .int .i64 was.off] wr.heap.size #[.int .i64 pid, .int .i64 xe, .int .i64 xs, .int .i64 0, .int .i64 0] → Calls Try.prog 53 #[.pointer (some ⟨rq, 0, none⟩)] W fun e w' => e = .returned (.int .i64 (numS (numS (numS s).2).2).1) ∧ R2x w w' rq r (numS (numS (numS s).2).2).2 ms v pw #[.int .i64 wp, .int .i64 was.ep, .int .i64 was.seq, .int .i64 was.n, .int .i64 was.off] wr.heap.size #[.int .i64 pid, .int .i64 xe, .int .i64 xs, .int .i64 0, .int .i64 0]) := fun W xe xs h => h.num
            have HN4 : Hid (∀ W xe xs xn, R2x w W rq r (numS (numS (numS s).2).2).2 ms v pw #[.int .i64 wp, .int .i64 was.ep, .int .i64 was.seq, .int .i64 was.n, .int .i64 was.off] wr.heap.size #[.int .i64 pid, .int .i64 xe, .int .i64 xs, .int .i64 xn, .int .i64 0] → Calls Try.prog 53 #[.pointer (some ⟨rq, 0, none⟩)] W fun e w' => e = .returned (.int .i64 (numS (numS (numS (numS s).2).2).2).1) ∧ R2x w w' rq r (numS (numS (numS (numS s).2).2).2).2 ms v pw #[.int .i64 wp, .int .i64 was.ep, .int .i64 was.seq, .int .i64 was.n, .int .i64 was.off] wr.heap.size #[.int .i64 pid, .int .i64 xe, .int .i64 xs, .int .i64 xn, .int .i64 0]) := fun W xe xs xn h => h.num
            clear HI hc0 hc2 hf2
            generalize numS (numS (numS (numS s).2).2).2 = B4 at *
            generalize numS (numS (numS s).2).2 = B3 at *
            generalize numS (numS s).2 = B2 at *
            generalize numS s = B1 at *
            obtain ⟨xe, t1⟩ := B1
            obtain ⟨xs, t2⟩ := B2
            obtain ⟨xn, t3⟩ := B3
            obtain ⟨xo, t4⟩ := B4
            simp only at *
            go_wp2_with fail
            refine (HN1.out _ HX0.out).mono ?_
            rintro e w7 ⟨rfl, hA⟩
            obtain ⟨_, ⟨z0, z1, z2, z3, z4⟩, ff, _⟩ := hA.c
            have f1 := ff 1
            have HA := hid (hA.set 1 (.int .i64 xe))
            generalize hpx : wr.heap.size = px at *
            clear hA ff HX0 HN1 hpx
            go_wp2_with fail
            refine (HN2.out _ xe HA.out).mono ?_
            rintro e w8 ⟨rfl, hA⟩
            clear z0 z1 z2 z3 z4
            obtain ⟨_, ⟨z0, z1, z2, z3, z4⟩, ff, _⟩ := hA.c
            have f2 := ff 2
            have HA2 := hid (hA.set 2 (.int .i64 xs))
            clear hA ff HA HN2
            go_wp2_with fail
            refine (HN3.out _ xe xs HA2.out).mono ?_
            rintro e w9 ⟨rfl, hA⟩
            clear z0 z1 z2 z3 z4
            obtain ⟨_, ⟨z0, z1, z2, z3, z4⟩, ff, _⟩ := hA.c
            have f3 := ff 3
            have HA3 := hid (hA.set 3 (.int .i64 xn))
            clear hA ff HA2 HN3
            go_wp2_with fail
            refine (HN4.out _ xe xs xn HA3.out).mono ?_
            rintro e w10 ⟨rfl, hA⟩
            clear z0 z1 z2 z3 z4
            obtain ⟨_, ⟨z0, z1, z2, z3, z4⟩, ff, _⟩ := hA.c
            have f4 := ff 4
            have HX := hid (hA.set 4 (.int .i64 xo))
            clear hA ff HA3 HN4
            go_upto_region 26 with fail
            obtain ⟨_, ⟨z0', z1', z2', z3', z4'⟩, ff, _⟩ := HX.out.c
            obtain ⟨⟨y0, y1, y2, y3, y4⟩, _, _, gw⟩ := HX.out.c
            generalize w10.setCell ⟨px, 4, none⟩ (.int .i64 xo) = W at *
            clear z0 z1 z2 z3 z4 f1 f2 f3 f4 ff gw
            obtain ⟨ok, HOK⟩ : ∃ ok, Hid (ok = badX k was ⟨xe, xs, xn, xo⟩) := ⟨_, rfl⟩
            have HOK0 := HOK
            simp only [List.append_eq, List.cons_append, List.nil_append]
            go_cut [155] from 61 to 166 (fun s155 wx => s155 = .bool ok ∧ Hid (R2x w wx rq r t4 ms v pw #[.int .i64 wp, .int .i64 was.ep, .int .i64 was.seq, .int .i64 was.n, .int .i64 was.off] px #[.int .i64 pid, .int .i64 xe, .int .i64 xs, .int .i64 xn, .int .i64 xo]))
            case first =>
              as_aux_lemma =>
                have H36 : Hid (∀ W x m, I64 x → Calls Try.prog 36 #[.int .i64 x, .int .i64 m] W fun e w' => e = .returned (.bool (decide (0 ≤ x) && decide (x ≤ m))) ∧ W = w') := fun W x m hx => within_any x m W hx
                by_cases c0 : xn < 1
                · have e0 : decide (xn < 1) = true := decide_eq_true c0
                  have hok : ok = true := by rw [HOK.out]; unfold badX rightNt inB; simp; omega
                  clear HOK
                  subst hok
                  try clear c8
                  go_wp2_with (go_at_call 36; refine (H36.out _ _ _ (by first | exact i1 | exact i2 | exact i3 | exact i4)).mono ?_; rintro e w11 ⟨rfl, rfl⟩)
                  go_meet
                  case rel => exact ⟨rfl, by first | exact HX | exact hid (HX.out.drewN _)⟩
                · have e0 : decide (xn < 1) = false := decide_eq_false c0
                  by_cases c1 : 64 < xn
                  · have e1 : decide (64 < xn) = true := decide_eq_true c1
                    have hok : ok = true := by rw [HOK.out]; unfold badX rightNt inB; simp; omega
                    clear HOK
                    subst hok
                    try clear c8
                    go_wp2_with (go_at_call 36; refine (H36.out _ _ _ (by first | exact i1 | exact i2 | exact i3 | exact i4)).mono ?_; rintro e w11 ⟨rfl, rfl⟩)
                    go_meet
                    case rel => exact ⟨rfl, by first | exact HX | exact hid (HX.out.drewN _)⟩
                  · have e1 : decide (64 < xn) = false := decide_eq_false c1
                    have v1 : IntKind.i64.wrap (xn - 1) = xn - 1 := IntWalk.i64_in _ ⟨by omega, by omega⟩
                    have v2 : IntKind.i64.wrap (1000000 - (xn - 1)) = 1000000 - (xn - 1) := IntWalk.i64_in _ ⟨by omega, by omega⟩
                    have v3 : IntKind.i64.wrap (1000000000 - (xn - 1)) = 1000000000 - (xn - 1) := IntWalk.i64_in _ ⟨by omega, by omega⟩
                    by_cases c2 : 0 ≤ xe ∧ xe ≤ 1000000000
                    · have e2 : (decide (0 ≤ xe) && decide (xe ≤ 1000000000)) = true := by simp; omega
                      by_cases c3 : 0 ≤ xs ∧ xs ≤ 1000000 - (xn - 1)
                      · have e3 : (decide (0 ≤ xs) && decide (xs ≤ 1000000 - (xn - 1))) = true := by simp; omega
                        by_cases c4 : 0 ≤ xo ∧ xo ≤ 1000000000 - (xn - 1)
                        · have e4 : (decide (0 ≤ xo) && decide (xo ≤ 1000000000 - (xn - 1))) = true := by simp; omega
                          by_cases c5 : xo ≤ was.off
                          · have e5 : decide (xo ≤ was.off) = true := decide_eq_true c5
                            have hok : ok = true := by rw [HOK.out]; unfold badX rightNt inB; simp; omega
                            clear HOK
                            subst hok
                            try clear c8
                            go_wp2_with (go_at_call 36; refine (H36.out _ _ _ (by first | exact i1 | exact i2 | exact i3 | exact i4)).mono ?_; rintro e w11 ⟨rfl, rfl⟩)
                            go_meet
                            case rel => exact ⟨rfl, by first | exact HX | exact hid (HX.out.drewN _)⟩
                          · have e5 : decide (xo ≤ was.off) = false := decide_eq_false c5
                            by_cases c6 : xe < was.ep
                            · have e6 : decide (xe < was.ep) = true := decide_eq_true c6
                              have hok : ok = true := by rw [HOK.out]; unfold badX rightNt inB; simp; omega
                              clear HOK
                              subst hok
                              try clear c8
                              go_wp2_with (go_at_call 36; refine (H36.out _ _ _ (by first | exact i1 | exact i2 | exact i3 | exact i4)).mono ?_; rintro e w11 ⟨rfl, rfl⟩)
                              go_meet
                              case rel => exact ⟨rfl, by first | exact HX | exact hid (HX.out.drewN _)⟩
                            · have e6 : decide (xe < was.ep) = false := decide_eq_false c6
                              by_cases c7 : 0 < k
                              · have e7 : decide ((0 : Int) < (k : Int)) = true := decide_eq_true (by omega)
                                have hnw := hwk c7
                                have w1 := hnw.seq
                                have w2 := hnw.n
                                have v4 : IntKind.i64.wrap (was.seq + was.n) = was.seq + was.n := IntWalk.i64_in _ ⟨by omega, by omega⟩
                                by_cases c8 : xe = was.ep
                                · have e8 : (xe == was.ep) = true := by simp [c8]
                                  by_cases c9 : xs < was.seq + was.n
                                  · have e9 : decide (xs < was.seq + was.n) = true := decide_eq_true c9
                                    have hok : ok = true := by rw [HOK.out]; unfold badX rightNt inB; simp; omega
                                    clear HOK
                                    subst hok
                                    try clear c8
                                    go_wp2_with (go_at_call 36; refine (H36.out _ _ _ (by first | exact i1 | exact i2 | exact i3 | exact i4)).mono ?_; rintro e w11 ⟨rfl, rfl⟩)
                                    go_meet
                                    case rel => exact ⟨rfl, by first | exact HX | exact hid (HX.out.drewN _)⟩
                                  · have e9 : decide (xs < was.seq + was.n) = false := decide_eq_false c9
                                    have hok : ok = false := by rw [HOK.out]; unfold badX rightNt inB; simp; omega
                                    clear HOK
                                    subst hok
                                    try clear c8
                                    go_wp2_with (go_at_call 36; refine (H36.out _ _ _ (by first | exact i1 | exact i2 | exact i3 | exact i4)).mono ?_; rintro e w11 ⟨rfl, rfl⟩)
                                    go_meet
                                    case rel => exact ⟨rfl, by first | exact HX | exact hid (HX.out.drewN _)⟩
                                · have e8 : (xe == was.ep) = false := by simp [c8]
                                  have hok : ok = false := by rw [HOK.out]; unfold badX rightNt inB; simp; omega
                                  clear HOK
                                  subst hok
                                  try clear c8
                                  go_wp2_with (go_at_call 36; refine (H36.out _ _ _ (by first | exact i1 | exact i2 | exact i3 | exact i4)).mono ?_; rintro e w11 ⟨rfl, rfl⟩)
                                  go_meet
                                  case rel => exact ⟨rfl, by first | exact HX | exact hid (HX.out.drewN _)⟩
                              · have e7 : decide ((0 : Int) < (k : Int)) = false := decide_eq_false (by omega)
                                have hok : ok = false := by rw [HOK.out]; unfold badX rightNt inB; simp; omega
                                clear HOK
                                subst hok
                                try clear c8
                                go_wp2_with (go_at_call 36; refine (H36.out _ _ _ (by first | exact i1 | exact i2 | exact i3 | exact i4)).mono ?_; rintro e w11 ⟨rfl, rfl⟩)
                                go_meet
                                case rel => exact ⟨rfl, by first | exact HX | exact hid (HX.out.drewN _)⟩
                        · have e4 : (decide (0 ≤ xo) && decide (xo ≤ 1000000000 - (xn - 1))) = false := by rw [Bool.and_eq_false_iff, decide_eq_false_iff_not, decide_eq_false_iff_not]; omega
                          have hok : ok = true := by rw [HOK.out]; unfold badX rightNt inB; simp; omega
                          clear HOK
                          subst hok
                          try clear c8
                          go_wp2_with (go_at_call 36; refine (H36.out _ _ _ (by first | exact i1 | exact i2 | exact i3 | exact i4)).mono ?_; rintro e w11 ⟨rfl, rfl⟩)
                          go_meet
                          case rel => exact ⟨rfl, by first | exact HX | exact hid (HX.out.drewN _)⟩
                      · have e3 : (decide (0 ≤ xs) && decide (xs ≤ 1000000 - (xn - 1))) = false := by rw [Bool.and_eq_false_iff, decide_eq_false_iff_not, decide_eq_false_iff_not]; omega
                        have hok : ok = true := by rw [HOK.out]; unfold badX rightNt inB; simp; omega
                        clear HOK
                        subst hok
                        try clear c8
                        go_wp2_with (go_at_call 36; refine (H36.out _ _ _ (by first | exact i1 | exact i2 | exact i3 | exact i4)).mono ?_; rintro e w11 ⟨rfl, rfl⟩)
                        go_meet
                        case rel => exact ⟨rfl, by first | exact HX | exact hid (HX.out.drewN _)⟩
                    · have e2 : (decide (0 ≤ xe) && decide (xe ≤ 1000000000)) = false := by rw [Bool.and_eq_false_iff, decide_eq_false_iff_not, decide_eq_false_iff_not]; omega
                      have hok : ok = true := by rw [HOK.out]; unfold badX rightNt inB; simp; omega
                      clear HOK
                      subst hok
                      try clear c8
                      go_wp2_with (go_at_call 36; refine (H36.out _ _ _ (by first | exact i1 | exact i2 | exact i3 | exact i4)).mono ?_; rintro e w11 ⟨rfl, rfl⟩)
                      go_meet
                      case rel => exact ⟨rfl, by first | exact HX | exact hid (HX.out.drewN _)⟩
            case rest =>
              obtain ⟨rfl, HX2⟩ := hcut
              generalize wc = W2 at *
              clear HX y0 y1 y2 y3 y4 z0' z1' z2' z3' z4' HOK
              as_aux_lemma =>
                cases ok with
                | true =>
                  go_wp2_with fail
                  go_ret2
                  exact ⟨HX2.out.rl.below, .inl ⟨HG2.out HOK0.out.symm, rfl⟩⟩
                | false =>
                  have hbx := HOK0.out.symm
                  have HNX := hid (badX_ok hbx)
                  have HJ := hid (HG2'.out hbx)
                  clear hbx HOK0 HG2 HG2'
                  obtain ⟨oa, cp, rfl, hcap, hcm, hnn, hoa⟩ := HX2.out.rl.row.shape
                  have hml := hms'.2
                  have hbd : (t4.wrong = false → ms.length + 1 + t4.rest.length ≤ L) ∧ ms.length + 1 ≤ L + 1 := by
                    have h1 := hms'.1 hk2
                    exact ⟨fun hw => by have := hcnt hw; omega, by omega⟩
                  have hm9 : ms.length ≤ 100000 := by omega
                  clear hms' hcnt
                  go_wp2_with fail
                  refine region28 _ w _ rq r px pw t4 ms oa cp _ pid xe xs xn xo HX2.out hm9 rfl rfl rfl ?_
                  intro g c W3 h3
                  have HPU := hid h3
                  clear h3 HX2
                  generalize hLM : ms.length = LM at *
                  simp only [Act.put, List.setIfInBounds_toArray, List.set_cons_zero, List.set_cons_succ]
                  all_goals
                    obtain ⟨⟨y0, y1, y2, y3, y4⟩, ⟨z0, z1, z2, z3, z4⟩, _, ffw⟩ := HPU.out.c
                    have fw0 := ffw 0
                    have fw1 := ffw 1
                    have fw2 := ffw 2
                    have fw3 := ffw 3
                    have fw4 := ffw 4
                    have HP1 := hid (((((HPU.out.one.setw 0 (.int .i64 pid)).setw 1 (.int .i64 xe)).setw 2 (.int .i64 xs)).setw 3 (.int .i64 xn)).setw 4 (.int .i64 xo))
                    clear ffw HPU
                    go_wp2_with fail
                    go_roundg (leftN t4)
                    case measure => omega
                    case rel => exact ⟨k + 1, ⟨xe, xs, xn, xo⟩, pid, _, t4, _, Nat.le_refl _, by omega, by omega, by rw [List.length_append, hLM]; exact hbd, by go_num, fun _ => HNX.out, HJ.out, HP1.out⟩
          · have HJ := hid (G3.out i pid n k was ms s HI.out.1 hgo)
            have HR := hid HI.out.2.rl
            by_cases hk1 : (k : Int) < n
            · have hw : s.wrong = true := (Bool.eq_false_or_eq_true s.wrong).resolve_right (fun hq => hgo ⟨hk1, hq⟩)
              rw [hw] at hc1
              clear hgo HI
              go_wp2_with fail
              go_roundg (leftN s)
              case measure => omega
              case rel => exact ⟨i + 1, pid, ms, s, v, Nat.le_refl _, by omega, hms', rfl, by go_num, HJ.out, HR.out⟩
            · clear hgo HI
              go_wp2_with fail
              go_roundg (leftN s)
              case measure => omega
              case rel => exact ⟨i + 1, pid, ms, s, v, Nat.le_refl _, by omega, hms', rfl, by go_num, HJ.out, HR.out⟩
      · have HG4 := hid (G4.out i last ms s HI.out.1 hgo)
        have HG5 := hid (G5.out i last ms s HI.out.1 hgo)
        have HR := hid HI.out.2
        have hml := hms.2
        cases hw : s.wrong with
        | true =>
          rw [hw] at hc1
          have HFa := hid (HG4.out (.inl hw))
          by_cases hi1 : (i : Int) < n0
          · clear hgo HI
            go_wp2_with fail
            go_ret2
            exact ⟨HR.out.below, .inl ⟨HFa.out, rfl⟩⟩
          · clear hgo HI
            go_wp2_with fail
            go_ret2
            exact ⟨HR.out.below, .inl ⟨HFa.out, rfl⟩⟩
        | false =>
          rw [hw] at hc1
          have hi1 : ¬ (i : Int) < n0 := fun h => hgo ⟨h, hw⟩
          have hst : ((strOf s.rest).toList == (⟨#[]⟩ : ByteArray).toList) = decide (s.rest = []) := by
            have e : (⟨#[]⟩ : ByteArray) = strOf [] := rfl
            rw [e, Lib.toList_data, Lib.toList_data, strOf_data, strOf_data]
            by_cases h : s.rest = [] <;> simp [h]
          have hst0 : ((strOf s.rest).toList == ([] : List UInt8)) = decide (s.rest = []) := by
            rw [Lib.toList_data, strOf_data]
            by_cases h : s.rest = [] <;> simp [h]
          by_cases hr : s.rest = []
          · rw [decide_eq_true hr] at hst hst0
            by_cases hn : n0 < 0
            · have HFa := hid (HG4.out (.inr (.inr hn)))
              clear hgo HI hr
              go_wp2_with fail
              go_ret2
              exact ⟨HR.out.below, .inl ⟨HFa.out, rfl⟩⟩
            · have HGo := hid (HG5.out hw hr (by omega))
              clear hgo HI hr
              go_wp2_with fail
              go_ret2
              exact ⟨HR.out.below, .inr ⟨ms, r, v, HGo.out, rfl, HR.out.fin (by omega)⟩⟩
          · rw [decide_eq_false hr] at hst hst0
            have HFa := hid (HG4.out (.inr (.inl hr)))
            clear hgo HI hr
            go_wp2_with fail
            go_ret2
            exact ⟨HR.out.below, .inl ⟨HFa.out, rfl⟩⟩
end Go.Proofs.Ytkdbclnnmpnfgaa

