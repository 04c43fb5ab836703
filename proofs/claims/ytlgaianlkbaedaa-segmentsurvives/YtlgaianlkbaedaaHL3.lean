/- SegmentReads. -/
import Derived.Test.YtlgaianlkbaedaaH39
namespace Go.Proofs.Ytlgaianlkbaedaa
open Go.RowKit Go.Maps Go.Sort
set_option maxRecDepth 100000
set_option linter.unusedSimpArgs false
set_option linter.unusedVariables false

theorem Nums.under {w w1 : World} {oa : Option Addr} {ks : List Int} (h : Nums w oa ks) (hb : Below w.heap.size w w1) : Nums w1 oa ks := by
  refine ⟨?_, fun hne b off e => Nat.lt_of_lt_of_le (h.lt hne b off e) hb.size, h.len⟩
  by_cases hne : ks = []
  · exact .inl hne
  · exact h.at_.kept (fun b off e => hb.block b (h.lt hne b off e))
theorem pick_nat (c : Int) (m : Nat) (h : -9223372036854775808 ≤ c ∧ c ≤ 9223372036854775807) (hm : 1 ≤ m) (hm2 : m ≤ 5000) (M : Int) (hM : M = (m : Int)) : ∃ r : Nat, r < m ∧ ∀ W, Calls Try.prog 13 #[.int .i64 c, .int .i64 M] W fun e w' => e = .returned (.int .i64 (r : Int)) ∧ w' = W := by
  obtain ⟨r, n, h1, h2, h3, h4, h5, h6⟩ := pick_one c m h.1 h.2 hm hm2 M hM
  refine ⟨n - 1, by omega, fun W => ?_⟩
  rw [show ((n - 1 : Nat) : Int) = r by omega]
  exact h6 W
theorem BL.cap {w : World} {A : Nat} {o : Option Addr} {c : Nat} {ps : List (Bat × Value)} (h : BL w A (.slice o ps.length c) ps) : ps.length ≤ c := by
  obtain ⟨_, ⟨e, hn⟩ | ⟨g, cap, cur, e, hb, hg, hl, _⟩⟩ := h.row
  · rw [hn]; exact Nat.zero_le _
  · cases e
    exact hl
set_option maxHeartbeats 6400000 in
theorem reads_walk (w : World) (c0 : Int) (hc0 : -9223372036854775808 ≤ c0 ∧ c0 ≤ 9223372036854775807) (oa : Option Addr) (ks : List Int) (cap : Nat) (hk : Nums w oa ks) (c2 : Int) (hc2 : -9223372036854775808 ≤ c2 ∧ c2 ≤ 9223372036854775807) (c3 : Int) (hc3 : -9223372036854775808 ≤ c3 ∧ c3 ≤ 9223372036854775807) :
    Calls Try.prog 5 #[.int .i64 c0, .slice oa ks.length cap, .int .i64 c2, .int .i64 c3] w fun e w' => e = .returned (.bool true) ∧ Below w.heap.size w w' := by
  obtain ⟨base, hbase, hp0⟩ := pick_nat c0 1000 hc0 (by decide) (by decide) 1000 rfl
  obtain ⟨most, hmost, hp3⟩ := pick_nat c3 3000 hc3 (by decide) (by decide) 3000 rfl
  have HP0 := hid hp0
  have HP3 := hid hp3
  have HK := hid hk
  have HC2 := hid hc2
  clear hp0 hp3 hk hc0 hc3 hc2
  go_enter Try.func5, Try.ntmps5
  go_wp2_with (go_at_call 8; refine (shown_any w).mono ?_; rintro e w1 ⟨rfl, hb1⟩; have HB1 := hid hb1; clear hb1)
  refine (HP0.out _).mono ?_
  rintro e w2 ⟨rfl, rfl⟩
  go_wp2_with (go_at_call 21; refine (filled_any _ base (by omega) oa ks cap (HK.out.under HB1.out)).mono ?_; rintro e w3 ⟨q, a, bs, rfl, hlen, hsm, hso⟩; have HSO := hid (hso.rebase HB1.out); have HSM := hid hsm; clear hso hsm)
  have hbl : bs.length ≤ 60 := by omega
  have hend := HSM.out.ends base
  have hfile := HSM.out.file
  have hge := endM_base bs ⟨base, 0, 0⟩
  simp only at hge
  obtain ⟨r2, hr2, hp2⟩ := pick_nat c2 ((endM ⟨base, 0, 0⟩ bs).base - base + 2) HC2.out (by omega) (by omega) (((endM ⟨base, 0, 0⟩ bs).base : Int) - (base : Int) + 2) (by omega)
  have HP2 := hid hp2
  have HN : Hid (∀ W, Below w3.heap.size w3 W → Calls Try.prog 12 #[.pointer (some ⟨q, 0, none⟩)] W fun e w' => e = .returned (.int .i64 ((endM ⟨base, 0, 0⟩ bs).base : Int)) ∧ w' = W) := fun W hb => (HSO.out.under hb).next
  have HR0 : Hid (∀ off : Int, ((endM ⟨base, 0, 0⟩ bs).base : Int) ≤ off → Calls Try.prog 18 #[.pointer (some ⟨q, 0, none⟩), .int .i64 off, .int .i64 (most : Int)] w3 fun e w' => e = .returned (.slice none 0 0) ∧ Below w3.heap.size w3 w') := fun off ho => HSO.out.readNo off most ho
  have HR1 : Hid (∀ off most : Int, ∀ W, Below w3.heap.size w3 W → (base : Int) ≤ off → off < ((endM ⟨base, 0, 0⟩ bs).base : Int) → -9223372036854775808 ≤ most ∧ most ≤ 9223372036854775807 → Calls Try.prog 18 #[.pointer (some ⟨q, 0, none⟩), .int .i64 off, .int .i64 most] W fun e w' => ∃ n ps rv, ReadN base bs off n ∧ e = .returned rv ∧ BL w' W.heap.size rv ps ∧ ps.map Prod.fst = takeB most ((endM ⟨base, 0, 0⟩ (bs.take n)).at_ : Int) false (endM ⟨base, 0, 0⟩ (bs.take n)) (bs.drop n) ∧ Below W.heap.size W w') := fun off most W hb ho ho2 hmo => (HSO.out.under hb).readN off most ho ho2 hmo
  have HB3 := hid HSO.out.below
  have HF := hid HSO.out.fits
  clear hp2 hlen HP0 HC2 HB1 HK
  have HNX : Hid (∃ N : Nat, N = (endM ⟨base, 0, 0⟩ bs).base) := ⟨_, rfl⟩
  obtain ⟨NX, hNX⟩ := HNX.out
  rw [← hNX] at HN HR0 HR1 HP2 hr2 hend hge
  have HX := hid hNX
  clear hNX HNX
  go_wp2_with fail
  refine (HN.out _ (by repeat (first | exact Below.refl _ _ | apply Below.drew))).mono ?_
  rintro e w4 ⟨rfl, rfl⟩
  go_wp2_with fail
  refine (HP2.out _).mono ?_
  rintro e w5 ⟨rfl, rfl⟩
  go_wp2_with fail
  refine (HP3.out _).mono ?_
  rintro e w5 ⟨rfl, rfl⟩
  go_wp2_with fail
  by_cases hin : base + r2 < NX
  · refine (HR1.out _ _ _ (by repeat (first | exact Below.refl _ _ | apply Below.drew)) (by omega) (by omega) (by omega)).mono ?_
    rintro e w6 ⟨n, ps1, rv1, hn, rfl, hbl1, he1, hb6⟩
    have HE1 := hid (And.intro hn he1)
    have HBL1 := hid hbl1
    have HB6 := hid hb6
    obtain ⟨o1, cp1, rfl, hg1⟩ := hbl1.shape2
    have HG1 := hid hg1
    clear hn hbl1 he1 hb6 hg1
    go_wp2_with fail
    refine (HN.out _ (by first | exact HB6.out | exact HB6.out.drew)).mono ?_
    rintro e w7 ⟨rfl, rfl⟩
    have hno : ¬ (NX : Int) ≤ (base : Int) + (r2 : Int) := by omega
    go_wp2_with fail
    refine (HR1.out _ _ _ (by first | exact HB6.out | exact HB6.out.drew) (by omega) (by omega) (by omega)).mono ?_
    rintro e w8 ⟨n2, ps2, rv2, hn2, rfl, hbl2, he2, hb8⟩
    have HTR : Hid (TwoReads base bs ((base : Int) + (r2 : Int)) ps1 ps2) := by
      have hnn := HE1.out.1.one hn2
      subst hnn
      rw [take_rest n2 _ (by omega)] at he2
      exact two_reads HF.out (by omega) (by omega) HE1.out.1 most HE1.out.2 he2
    have HBL2 := hid hbl2
    have HBL8 := hid (HBL1.out.under hb8)
    have HB8 := hid hb8
    obtain ⟨o2, cp2, rfl, hg2⟩ := hbl2.shape2
    have HG2 := hid hg2
    have hs1 := HTR.out.some1
    have hle := HTR.out.le
    have hlen2 : ps2.length ≤ 5000 := by have := congrArg List.length he2; rw [List.length_map, take_rest n2 _ (by omega), List.length_drop] at this; omega
    clear hn2 hbl2 he2 hb8 hg2
    obtain ⟨g1, rfl⟩ := HG1.out hs1
    obtain ⟨g2, rfl⟩ := HG2.out (by omega)
    have hx1 : ps1[0]? = some (ps1[0]'hs1) := List.getElem?_eq_getElem hs1
    obtain ⟨a0, a1, a2, a3, a4, a5⟩ := bat_at HBL8.out.row 0 _ hx1
    obtain ⟨f1, f2, f3, f4⟩ := HTR.out.first _ hx1
    have hrc := HBL8.out.recs _ (List.mem_of_getElem? hx1)
    obtain ⟨ro, rc, hrs, _⟩ := hrc.shape
    rw [hrs] at a5
    simp only [Nat.zero_mul, Nat.zero_add] at a0 a5
    clear hrc hrs a1 a2 a3 a4 hx1
    generalize (ps1[0]'hs1).1.base = B0 at *
    generalize (ps1[0]'hs1).1.recs.length = L0 at *
    have hs1' : ¬ (ps1.length : Int) = 0 := by omega
    have hs1'' : (0 : Int) < (ps1.length : Int) := by omega
    have hle' : ¬ (ps2.length : Int) < (ps1.length : Int) := by omega
    have f1' : ¬ (base : Int) + (r2 : Int) < B0 := by omega
    have f2' : ¬ B0 + (L0 : Int) ≤ (base : Int) + (r2 : Int) := by omega
    have hcap : ps2.length ≤ cp2 := HBL2.out.cap
    have hcap' : (ps1.length : Int) ≤ (cp2 : Int) := by omega
    have cb1 : ((ps1.length : Int) == 0) = false := by simpa using hs1'
    have cb1' : decide ((ps1.length : Int) = 0) = false := decide_eq_false hs1'
    have cb2 : decide ((base : Int) + (r2 : Int) < B0) = false := decide_eq_false f1'
    have cb3 : decide (B0 + (L0 : Int) ≤ (base : Int) + (r2 : Int)) = false := decide_eq_false f2'
    have cb4 : decide ((ps2.length : Int) < (ps1.length : Int)) = false := decide_eq_false hle'
    go_wp2_with fail
    go_quiet (fail)
    have HSY := hid (same_yes (HBL8.out.under (below_drewN (Below.refl _ _) nq)) ((HBL2.out.take ps1.length hle).under (below_drewN (Below.refl _ _) nq)) HTR.out.same (by omega))
    go_wp2_with fail
    refine HSY.out.mono ?_
    rintro e w9 ⟨rfl, hb9⟩
    have HB9 := hid ((below_drewN (Below.refl w8.heap.size w8) nq).trans hb9)
    clear hb9 HSY cb1 cb1' cb2 cb3 cb4 f1 f2 f3 f4 f1' f2' a0 a5 hs1' hs1'' hle' hcap' HG1 HG2 HE1 HBL1 HBL8
    go_wp2_with fail
    obtain ⟨L, hL⟩ : ∃ L, ps2.length = L + 1 := ⟨ps2.length - 1, by omega⟩
    go_loopg [14] ps2.length (fun kx s14 wr => ∃ j : Nat, j + 1 ≤ ps2.length ∧ ps2.length - (j + 1) ≤ kx ∧ s14 = .int .i64 ((j : Int) + 1) ∧ Hid (Below w8.heap.size w8 wr))
    case atStart => exact ⟨0, by omega, by omega, rfl, HB9⟩
    case round =>
      obtain ⟨j, hj, hjx, rfl, HB⟩ := hrel
      by_cases hlt : j + 1 < ps2.length
      · have hlt' : (j : Int) + 1 < (ps2.length : Int) := by omega
        have hlt2 : (j : Int) < (ps2.length : Int) := by omega
        have hxa : ps2[j]? = some (ps2[j]'(by omega)) := List.getElem?_eq_getElem (by omega)
        have hxb : ps2[j + 1]? = some (ps2[j + 1]'hlt) := List.getElem?_eq_getElem hlt
        obtain ⟨a0, a1, a2, a3, a4, a5⟩ := bat_at (HBL2.out.under HB.out).row j _ hxa
        obtain ⟨b0, b1, b2, b3, b4, b5⟩ := bat_at (HBL2.out.under HB.out).row (j + 1) _ hxb
        obtain ⟨f1, f2, f3⟩ := HTR.out.step j _ _ hxa hxb
        obtain ⟨ro', rc', hrs, _⟩ := ((HBL2.out.under HB.out).recs _ (List.mem_of_getElem? hxa)).shape
        rw [hrs] at a5
        rw [f1] at b0 f3
        clear hrs a1 a2 a3 a4 b1 b2 b3 b4 b5 hxa hxb f1
        generalize (ps2[j]'(by omega)).1.base = Ba at *
        generalize (ps2[j]'(by omega)).1.recs.length = La at *
        go_wp2_with fail
        go_quiet (fail)
        go_wp2_with fail
        go_roundg (ps2.length - (j + 1 + 1))
        case measure => omega
        case rel => exact ⟨j + 1, by omega, Nat.le_refl _, by go_num, by first | exact HB | exact below_drewN HB.out _⟩
      · have hlt' : ¬ (j : Int) + 1 < (ps2.length : Int) := by omega
        have hxa : ps2[L]? = some (ps2[L]'(by omega)) := List.getElem?_eq_getElem (by omega)
        obtain ⟨a0, a1, a2, a3, a4, a5⟩ := bat_at (HBL2.out.under HB.out).row L _ hxa
        obtain ⟨f1, f2⟩ := HTR.out.last _ (by rw [show ps2.length - 1 = L by omega]; exact hxa)
        obtain ⟨ro', rc', hrs, _⟩ := ((HBL2.out.under HB.out).recs _ (List.mem_of_getElem? hxa)).shape
        rw [hrs] at a5
        rw [← HX.out] at f1
        have HBW := hid (HB3.out.trans ((HB6.out.trans ((HB8.out.trans (HB.out.mono HB8.out.size)).mono HB6.out.size)).mono HB3.out.size))
        have HB36 := hid (HB6.out.trans ((HB8.out.trans (HB.out.mono HB8.out.size)).mono HB6.out.size))
        clear hrs hxa
        generalize (ps2[L]'(by omega)).1.base = Ba at *
        generalize (ps2[L]'(by omega)).1.epoch = x1 at *
        generalize (ps2[L]'(by omega)).1.pid = x2 at *
        generalize (ps2[L]'(by omega)).1.pidEpoch = x3 at *
        generalize (ps2[L]'(by omega)).1.seq = x4 at *
        generalize (ps2[L]'(by omega)).1.recs.length = La at *
        have hnx : (NX : Int) ≤ 1000000000 := by omega
        go_wp2_with fail
        go_quiet (first | (go_at_call 12; refine Calls.quiet_of_same (HN.out _ ?_); exact below_drewN (HB36.out.alloc HB36.out.size _) _))
        go_wp2_with fail
        go_ret
        exact ⟨rfl, below_drewN (HBW.out.alloc HBW.out.size _) _⟩
  · have hno : (NX : Int) ≤ (base : Int) + (r2 : Int) := by omega
    refine (HR0.out _ hno).mono ?_
    rintro e w6 ⟨rfl, hb6⟩
    have HB6 := hid hb6
    have HBW := hid (HB3.out.trans (hb6.mono HB3.out.size))
    clear hb6
    go_wp2_with fail
    refine (HN.out _ (by first | exact HB6.out | exact HB6.out.drew)).mono ?_
    rintro e w7 ⟨rfl, rfl⟩
    go_wp2_with fail
    go_ret
    exact ⟨rfl, HBW.out⟩
end Go.Proofs.Ytlgaianlkbaedaa

