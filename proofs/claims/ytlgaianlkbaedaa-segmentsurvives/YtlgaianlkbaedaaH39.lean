/- shown. -/
import Derived.Test.YtlgaianlkbaedaaH38
import Derived.ProofKit
import Derived.OpenShut
import Derived.ShutString
import Derived.ChangeOld
import Derived.SliceStrings
namespace Go.Proofs.Ytlgaianlkbaedaa
open Go.RowKit Go.Maps Go.Sort
set_option maxRecDepth 100000
set_option linter.unusedSimpArgs false
set_option linter.unusedVariables false

set_option maxHeartbeats 6400000 in
theorem shown_any (w : World) : Calls Try.prog 8 #[] w fun e w' => e = .returned (.bool true) ∧ Below w.heap.size w w' := by
  have H9 : Hid (Calls Try.prog 9 #[.int .i64 1000] w fun e w' => e = .returned (.tuple #[.pointer (some ⟨w.heap.size, 0, none⟩), .int .i64 0]) ∧ DiskA w' (fun k => k = w.heap.size) w.heap.size 1000 [] ∧ Below w.heap.size w w') := newA 1000 w (by decide) (by decide)
  have h8 := n5_ge
  have h9 := n5_le
  go_enter Try.func8, Try.ntmps8
  go_wp2_with (go_at_call 9; refine H9.out.mono ?_; rintro e w1 ⟨rfl, hD1, hb1⟩)
  have HD1 := hid hD1
  have HB1 := hid hb1
  clear H9 hD1 hb1
  go_wp2_with (go_at_call 10; refine (sh_open HD1.out HB1.out (fun k hk => Nat.le_of_eq hk.symm)).mono ?_; rintro e w2 ⟨q, rfl, hS, _⟩; have HS0 := hid hS; clear hS)
  clear HD1 HB1
  go_wp2_with (go_at_call 12; refine (sh_next0 HS0.out).mono ?_; rintro e w3 ⟨rfl, rfl⟩)
  go_wp2_with (go_at_call 11; refine (sh_small 5 _ 5 rfl).mono ?_; rintro e w4 ⟨rv4, rfl, hr4, _, hb4⟩; have HS4 := hid (HS0.out.under (by first | exact hb4 | exact (Below.refl _ _).drew.trans hb4)); have HR4 := hid hr4; clear hr4 hb4)
  go_wp2_with (go_at_call 14; refine (sh_app5 HS4.out _ HR4.out).mono ?_; rintro e w5 ⟨rfl, hs5, _, _⟩; have HS5 := hid hs5; clear hs5)
  clear HS0 HS4 HR4
  go_wp2_with (go_at_call 11; refine (sh_small 5 _ 5 rfl).mono ?_; rintro e w6 ⟨rv6, rfl, hr6, _, hb6⟩; have HS6 := hid (HS5.out.under (by first | exact hb6 | exact (Below.refl _ _).drew.trans hb6)); have HR6 := hid hr6; clear hr6 hb6)
  go_wp2_with (go_at_call 14; refine (sh_ord HS6.out _ HR6.out).mono ?_; rintro e w7 ⟨rfl, hb7⟩; have HS7 := hid (HS6.out.under hb7); clear hb7)
  clear HS5 HS6 HR6
  go_wp2_with (go_at_call 12; refine (sh_next1 HS7.out).mono ?_; rintro e w8 ⟨rfl, rfl⟩)
  go_wp2_with (go_at_call 17; refine (sh_safe0 HS7.out).mono ?_; rintro e w8 ⟨rfl, hb8⟩; have HS8 := hid (HS7.out.under hb8); clear hb8)
  clear HS7
  go_wp2_with (go_at_call 15; refine (sh_sync HS8.out).mono ?_; rintro e w9 ⟨rfl, hs9, _, _⟩; have HS9 := hid hs9; clear hs9)
  clear HS8
  go_wp2_with (go_at_call 17; refine (sh_safe1 HS9.out).mono ?_; rintro e w10 ⟨rfl, hb10⟩; have HS10 := hid (HS9.out.under hb10); clear hb10)
  clear HS9
  go_wp2_with (go_at_call 25; refine (sh_bytes1 HS10.out).mono ?_; rintro e w11 ⟨rfl, hb11⟩; have HS11 := hid (HS10.out.under hb11); clear hb11)
  clear HS10
  go_wp2_with (go_at_call 11; refine (sh_small 6 _ 6 rfl).mono ?_; rintro e w12 ⟨rv12, rfl, hr12, _, hb12⟩; have HS12 := hid (HS11.out.under (by first | exact hb12 | exact (Below.refl _ _).drew.trans hb12)); have HR12 := hid hr12; clear hr12 hb12)
  go_wp2_with (go_at_call 14; refine (sh_app6 HS12.out _ HR12.out).mono ?_; rintro e w13 ⟨rfl, hs13, _, _⟩; have HS13 := hid hs13; clear hs13)
  clear HS11 HS12 HR12
  go_wp2_with (go_at_call 25; refine (sh_bytes2 HS13.out).mono ?_; rintro e w14 ⟨rfl, hb14⟩; have HS14 := hid (HS13.out.under hb14); clear hb14)
  clear HS13
  have HF := hid HS14.out.fits
  have HS15 : Hid (SO w (w14.alloc (.cells #[.int .i64 ((n5 : Int) - 1)] 3)) _ q w.heap.size 5 1000 [b5, b6] n5) := HS14.out.more ((Below.refl _ _).alloc (Nat.le_refl _) _)
  have hc15 : (w14.alloc (.cells #[.int .i64 ((n5 : Int) - 1)] 3)).cell? ⟨w14.heap.size, 0, none⟩ = some (.int .i64 ((n5 : Int) - 1)) := cell_new rfl rfl
  clear HS14
  go_wp2_with (go_at_call 16; refine (sh_crash HS15.out _ hc15 (.inr ⟨Nat.le_refl _, by simp⟩)).mono ?_; rintro e w16 ⟨rfl, hd16⟩; have HD16 := hid hd16; clear hd16)
  clear HS15 hc15
  go_wp2_with (go_at_call 10; refine (sh_again HD16.out HF.out).mono ?_; rintro e w17 ⟨q2, rfl, hs17⟩; have HS17 := hid hs17; clear hs17)
  clear HD16
  go_wp2_with (go_at_call 12; refine (sh_next1 HS17.out).mono ?_; rintro e w18 ⟨rfl, rfl⟩)
  refine (sh_read1 HS17.out).mono ?_
  rintro e w19 ⟨o19, c19, rfl, hb19⟩
  have HS19 := hid (HS17.out.under hb19)
  clear hb19 HS17
  go_wp2_with fail
  refine (sh_read0 HS19.out).mono ?_
  rintro e w20 ⟨rfl, hb20⟩
  have HS20 := hid (HS19.out.under hb20)
  clear hb20 HS19
  go_wp2_with (go_at_call 23; refine (sh_index HS20.out).mono ?_; rintro e w21 ⟨o21, c21, rfl, hb21⟩; have HS21 := hid (HS20.out.under hb21); clear hb21)
  go_ret
  exact ⟨rfl, HS21.out.below⟩
end Go.Proofs.Ytlgaianlkbaedaa

/- What the arguments of a statement are in memory. -/
namespace Go.Proofs.Ytlgaianlkbaedaa
open Go.ChangeShapes Go.WideShapes Go.ChangeAt Go.RowKit
set_option linter.unusedVariables false

theorem own : ownKnob Try.prog.godebug = none := by kernel_rfl
theorem laidOut : laidOutB Try.prog = true := by kernel_rfl
/-- A slice of integers that came in: nil, or a row of so many numbers. -/
def IsRow (k : IntKind) (w : World) (a : Option Addr) (len cap : Nat) (zs : List Int) : Prop :=
  (a = none ∧ len = 0 ∧ cap = 0 ∧ zs = []) ∨
  ∃ x, a = some x ∧ len ≤ cap ∧ cap ≤ maxLen ∧ zs.length = cap ∧ (∀ i, i < zs.length → w.cell? (x.add i) = some (.int k (zs.getD i 0))) ∧ ∀ n ∈ zs, (Lit.int k n).wf = true
theorem IsRow.nums {w : World} {a : Option Addr} {len cap : Nat} {zs : List Int} (h : IsRow .i64 w a len cap zs) : ∃ ks : List Int, len = ks.length ∧ Nums w a ks := by
  rcases h with ⟨rfl, rfl, rfl, rfl⟩ | ⟨x, rfl, hl, hm, hz, hcell, hwz⟩
  · exact ⟨[], rfl, .inl rfl, fun h => absurd rfl h, Nat.zero_le _⟩
  · have hlen : (zs.take len).length = len := by rw [List.length_take]; omega
    refine ⟨zs.take len, hlen.symm, ?_, ?_, by omega⟩
    · by_cases h0 : len = 0
      · left; subst h0; simp
      · obtain ⟨b, off, spot⟩ := x
        have hc := hcell 0 (by omega)
        cases spot with
        | some sp =>
          exfalso
          simp [World.cell?, Addr.add] at hc
          split at hc <;> simp_all
        | none =>
          refine .inr ⟨b, off, rfl, fun j hj => ?_⟩
          have hjz : j < zs.length := by rw [List.length_take] at hj; omega
          have hadd : (⟨b, off, none⟩ : Addr).add j = ⟨b, off + j, none⟩ := by unfold Addr.add; split <;> simp_all
          have h2 := hcell j hjz
          have e : (zs.take len)[j] = zs.getD j 0 := by simp [List.getD, hjz]
          rw [hadd] at h2
          have hb := bounds_i64 (hwz (zs.getD j 0) (by simp [List.getD, hjz]))
          rw [e]
          exact ⟨h2, hb.1, hb.2⟩
    · intro hne b off e
      cases e
      have h0 : 0 < zs.length := by
        rcases Nat.eq_zero_or_pos zs.length with h | h
        · exact absurd (by rw [List.eq_nil_of_length_eq_zero h]; simp) hne
        · exact h
      have hc := hcell 0 h0
      exact World.block_lt_of_cell? w _ hc
end Go.Proofs.Ytlgaianlkbaedaa

/- What two reads tell. -/
namespace Go.Proofs.Ytlgaianlkbaedaa
open Go.RowKit Go.Maps Go.Sort
set_option linter.unusedSimpArgs false
set_option linter.unusedVariables false

/-- The batch that has an offset is the n-th. -/
structure ReadN (base : Nat) (bs : List Bat) (off : Int) (n : Nat) : Prop where
  lt : n < bs.length
  behind : off < ((endM ⟨base, 0, 0⟩ (bs.take (n + 1))).base : Int)
  ahead : ∀ j, 0 < j → j ≤ n → ((endM ⟨base, 0, 0⟩ (bs.take j)).base : Int) ≤ off
theorem ReadN.one {base : Nat} {bs : List Bat} {off : Int} {n m : Nat} (h : ReadN base bs off n) (k : ReadN base bs off m) : m = n := by
  rcases Nat.lt_trichotomy n m with h1 | h1 | h1
  · have h2 := k.ahead (n + 1) (by omega) (by omega)
    have h3 := h.behind
    omega
  · exact h1.symm
  · have h2 := h.ahead (m + 1) (by omega) (by omega)
    have h3 := k.behind
    omega
theorem ReadN.base {base : Nat} {bs : List Bat} {off : Int} {n : Nat} (h : ReadN base bs off n) (ho : (base : Int) ≤ off) : ((endM ⟨base, 0, 0⟩ (bs.take n)).base : Int) ≤ off := by
  rcases Nat.eq_zero_or_pos n with h1 | h1
  · subst h1; exact ho
  · exact h.ahead n h1 (Nat.le_refl _)
/-- Read of at most so much, and of all: what a law holds of both. -/
structure TwoReads (base : Nat) (bs : List Bat) (off : Int) (ps1 ps2 : List (Bat × Value)) : Prop where
  some1 : 0 < ps1.length
  le : ps1.length ≤ ps2.length
  same : ps1.map Prod.fst = (ps2.take ps1.length).map Prod.fst
  first : ∀ p, ps1[0]? = some p → p.1.base ≤ off ∧ off < p.1.base + (p.1.recs.length : Int) ∧ 0 ≤ p.1.base ∧ p.1.base + (p.1.recs.length : Int) ≤ 1000000000
  step : ∀ i p p', ps2[i]? = some p → ps2[i + 1]? = some p' → p'.1.base = p.1.base + (p.1.recs.length : Int) ∧ 0 ≤ p.1.base ∧ p'.1.base ≤ 1000000000
  last : ∀ p, ps2[ps2.length - 1]? = some p → p.1.base + (p.1.recs.length : Int) = ((endM ⟨base, 0, 0⟩ bs).base : Int) ∧ 0 ≤ p.1.base
theorem two_reads {base : Nat} {bs : List Bat} {off : Int} {n : Nat} (hF : Fits ⟨base, 0, 0⟩ bs) (hbase : base ≤ 1000000000) (ho : (base : Int) ≤ off) (h : ReadN base bs off n) (most : Int) {ps1 ps2 : List (Bat × Value)} (e1 : ps1.map Prod.fst = takeB most ((endM ⟨base, 0, 0⟩ (bs.take n)).at_ : Int) false (endM ⟨base, 0, 0⟩ (bs.take n)) (bs.drop n)) (e2 : ps2.map Prod.fst = bs.drop n) : TwoReads base bs off ps1 ps2 := by
  have hlt := h.lt
  have hl2 : ps2.length = bs.length - n := by have := congrArg List.length e2; simpa using this
  have hget : ∀ i p, ps2[i]? = some p → bs[n + i]? = some p.1 := fun i p hp => by
    have := congrArg (fun l => l[i]?) e2
    simp only [List.getElem?_map, hp, Option.map_some, List.getElem?_drop] at this
    exact this.symm
  have hbnd : ∀ t, (endM ⟨base, 0, 0⟩ (bs.take t)).base ≤ 1000000000 := fun t => (fits_bound (bs.take t) _ (fits_take bs _ t hF) hbase (Nat.zero_le _)).1
  have hpre : ∃ k, 0 < k ∧ k ≤ ps2.length ∧ ps1.map Prod.fst = (bs.drop n).take k := by
    rw [List.drop_eq_getElem_cons hlt] at e1
    obtain ⟨k, hk⟩ := takeB_first most ((endM ⟨base, 0, 0⟩ (bs.take n)).at_ : Int) bs[n] (bs.drop (n + 1)) (endM ⟨base, 0, 0⟩ (bs.take n))
    rw [hk] at e1
    by_cases hkl : k + 1 ≤ ps2.length
    · exact ⟨k + 1, by omega, hkl, by rw [e1, List.drop_eq_getElem_cons hlt]; rfl⟩
    · refine ⟨ps2.length, by omega, Nat.le_refl _, ?_⟩
      rw [e1, List.drop_eq_getElem_cons hlt, List.take_of_length_le (by simp; omega), List.take_of_length_le (by simp; omega)]
  obtain ⟨k, k0, k1, k2⟩ := hpre
  have hl1 : ps1.length = k := by
    have := congrArg List.length k2
    simp only [List.length_map, List.length_take, List.length_drop] at this
    omega
  refine ⟨by omega, by omega, ?_, fun p hp => ?_, fun i p p' hp hp' => ?_, fun p hp => ?_⟩
  · rw [hl1, List.map_take, e2, k2]
  · have hb : bs[n]? = some p.1 := by
      have := congrArg (fun l => l[0]?) k2
      simp only [List.getElem?_map, hp, Option.map_some] at this
      rw [List.getElem?_take, if_pos k0, List.getElem?_drop] at this
      exact this.symm
    obtain ⟨f1, f2, f3, f4⟩ := fits_at bs _ hF n p.1 hb
    have h1 := h.base ho
    have h2 := h.behind
    have h3 := hbnd (n + 1)
    rw [f1]
    omega
  · obtain ⟨f1, f2, f3, f4⟩ := fits_at bs _ hF (n + i) p.1 (hget i p hp)
    obtain ⟨g1, g2, g3, g4⟩ := fits_at bs _ hF (n + (i + 1)) p'.1 (hget (i + 1) p' hp')
    have h3 := hbnd (n + (i + 1))
    rw [f1, g1]
    rw [show n + (i + 1) = n + i + 1 by omega] at h3 ⊢
    omega
  · obtain ⟨f1, f2, f3, f4⟩ := fits_at bs _ hF (n + (ps2.length - 1)) p.1 (hget _ p hp)
    have h5 : bs.take (n + (ps2.length - 1) + 1) = bs := List.take_of_length_le (by omega)
    rw [h5] at f2
    rw [f1]
    omega
/-- Read of an offset within, up to so much. -/
theorem SO.readN {w0 w : World} {X : Nat → Prop} {q a base size bs safe} (h : SO w0 w X q a base size bs safe) (off most : Int) (ho : (base : Int) ≤ off) (ho2 : off < ((endM ⟨base, 0, 0⟩ bs).base : Int)) (hmo : -9223372036854775808 ≤ most ∧ most ≤ 9223372036854775807) :
    Calls Try.prog 18 #[.pointer (some ⟨q, 0, none⟩), .int .i64 off, .int .i64 most] w fun e w' => ∃ n ps rv, ReadN base bs off n ∧ e = .returned rv ∧ BL w' w.heap.size rv ps ∧ ps.map Prod.fst = takeB most ((endM ⟨base, 0, 0⟩ (bs.take n)).at_ : Int) false (endM ⟨base, 0, 0⟩ (bs.take n)) (bs.drop n) ∧ Below w.heap.size w w' :=
  (h.read off most ho ho2 hmo).mono fun e w' ⟨n, ps, rv, n1, n2, n3, e1, e2, e3, e4⟩ => ⟨n, ps, rv, ⟨n1, n2, n3⟩, e1, e2, e3, e4⟩
theorem take_rest {base : Nat} {bs : List Bat} (n : Nat) (most : Int) (hm : ((fileL bs).length : Int) ≤ most) : takeB most ((endM ⟨base, 0, 0⟩ (bs.take n)).at_ : Int) false (endM ⟨base, 0, 0⟩ (bs.take n)) (bs.drop n) = bs.drop n := by
  refine takeB_all _ _ _ _ _ ?_
  rw [← endM_append, List.take_append_drop]
  have ha := endM_at bs ⟨base, 0, 0⟩
  simp only [Nat.zero_add] at ha
  rw [ha]
  omega
end Go.Proofs.Ytlgaianlkbaedaa

/- Opened anew; a copy that crashes. -/
namespace Go.Proofs.Ytlgaianlkbaedaa
open Go.RowKit Go.Maps Go.Sort
set_option linter.unusedSimpArgs false
set_option linter.unusedVariables false

theorem nil_step (m : Mk) : stepL m [] = none := stepL_none5 (by rw [batchL_nil]; decide)
/-- Open of the file of a segment that is there, too. -/
theorem SO.again {w0 w : World} {X : Nat → Prop} {q a base size bs safe} (h : SO w0 w X q a base size bs safe) :
    Calls Try.prog 10 #[.pointer (some ⟨a, 0, none⟩), .string sName, .int .i64 (base : Int)] w fun e w' => ∃ q2 Y, e = .returned (.tuple #[.pointer (some ⟨q2, 0, none⟩), .int .i64 0, .int .i64 0]) ∧ SO w0 w' Y q2 a base size bs (fileL bs).length ∧ KX X w w' ∧ w.heap.size ≤ w'.heap.size ∧ ∀ W, Below w'.heap.size w' W → Calls Try.prog 12 #[.pointer (some ⟨q, 0, none⟩)] W fun e w2 => e = .returned (.int .i64 ((endM ⟨base, 0, 0⟩ bs).base : Int)) ∧ w2 = W := by
  have hF := h.fits
  have hb := h.lens
  obtain ⟨U, v, h1, h2⟩ := h.part
  rw [← List.append_nil (fileL bs)] at h2
  refine (h2.open base bs [] hb.2.2.2.2 hF nil_step).mono fun e w' ⟨q2, e1, e2, e3, e4⟩ => ⟨q2, _, e1, e2, fun k hk => e3 k (.inl hk), e4, fun W hW => ?_⟩
  exact snext_any ((h1.kept (fun k hk => e3 k (.inr hk)) e4).under hW)
/-- A crash of a copy whose bytes are all safe, with nothing kept. -/
theorem crash_whole (bs : List UInt8) (n : Nat) (h : n = bs.length) : crashL [] 0 1 (one sName bs n) = one sName bs n := by
  subst h
  show crashL [] 0 1 [⟨sName.data.toList, bs, bs.length⟩] = _
  unfold crashL
  rw [if_pos rfl]
  rfl
theorem copy_crash {w0 w : World} {a size bs} (h : DO w0 w (fun _ => False) a size (one sName (fileL bs) (fileL bs).length)) :
    Calls Try.prog 16 #[.pointer (some ⟨a, 0, none⟩), .slice none 0 0] w fun e w' => e = .returned (.tuple #[]) ∧ DO w0 w' (fun _ => False) a size (one sName (fileL bs) (fileL bs).length) := by
  refine (h.crash (Nat.le_refl _) none [] 0 (.inl rfl) (Nat.zero_le _) (fun h => absurd rfl h)).mono fun e w' ⟨e1, e2, _⟩ => ⟨e1, ?_⟩
  rw [crash_whole _ _ rfl] at e2
  exact e2
theorem copy_open {w0 w : World} {a size bs safe} (base : Nat) (hbase : base ≤ 1000000000) (hF : Fits ⟨base, 0, 0⟩ bs) (h : DO w0 w (fun _ => False) a size (one sName (fileL bs) safe)) :
    Calls Try.prog 10 #[.pointer (some ⟨a, 0, none⟩), .string sName, .int .i64 (base : Int)] w fun e w' => ∃ q, e = .returned (.tuple #[.pointer (some ⟨q, 0, none⟩), .int .i64 0, .int .i64 0]) ∧ SO w0 w' (fun _ => False) q a base size bs (fileL bs).length := by
  rw [← List.append_nil (fileL bs)] at h
  exact (h.open base bs [] hbase hF nil_step).mono fun e w' ⟨q, e1, e2, _⟩ => ⟨q, e1, e2⟩
/-- Behind a crash, opened anew: a beginning, with all that was safe. -/
theorem crash_open {w0 w : World} {X : Nat → Prop} {q a size bs safe} (h : SO w0 w X q a 0 size bs safe) (oa : Option Addr) (ks : List Int) (cap : Nat) (hk : dIntsAt w oa ks) (hlen : ks.length ≤ maxLen) (hkS : ks ≠ [] → ∀ b off, oa = some ⟨b, off, none⟩ → b < w0.heap.size ∨ X b) :
    Calls Try.prog 16 #[.pointer (some ⟨a, 0, none⟩), .slice oa ks.length cap] w fun e w' => e = .returned (.tuple #[]) ∧ KX X w w' ∧ w.heap.size ≤ w'.heap.size ∧ ∃ n rest, n ≤ bs.length ∧ (∀ t, (fileL (bs.take t)).length ≤ safe → t ≤ bs.length → t ≤ n) ∧ ∀ W, Below w'.heap.size w' W → Calls Try.prog 10 #[.pointer (some ⟨a, 0, none⟩), .string sName, .int .i64 0] W fun e w2 => ∃ q2, e = .returned (.tuple #[.pointer (some ⟨q2, 0, none⟩), .int .i64 ((rest : Nat) : Int), .int .i64 0]) ∧ SO w0 w2 X q2 a 0 size (bs.take n) (fileL (bs.take n)).length ∧ KX X W w2 ∧ W.heap.size ≤ w2.heap.size := by
  have hF := h.fits
  have hb := h.lens
  obtain ⟨k, k1, k2, k3⟩ := one_crash sName (fileL bs) safe hb.2.2.1 ks (keptN_le ks)
  obtain ⟨n, rest, n1, n2, n3, n4, n5, n6⟩ := cut_open bs 0 k hF k2
  refine (h.onDisk.crash hb.2.2.1 oa ks cap hk hlen hkS).mono fun e w' ⟨e1, e2, e3, e4⟩ => ⟨e1, e3, e4, n, rest.length, n1, fun t t1 t2 => ?_, fun W hW => ?_⟩
  · rcases n4 with ⟨h1, _⟩ | h1
    · omega
    · rcases Nat.lt_or_ge n t with h5 | h5
      · exfalso
        have h6 : (fileL (bs.take (n + 1))).length ≤ (fileL (bs.take t)).length := by
          have := fileL_take_le (bs.take t) (n + 1)
          rw [List.take_take, Nat.min_eq_left (by omega)] at this
          exact this
        omega
      · exact h5
  · have k3' : crashL ks 0 1 (one sName (fileL bs) safe) = one sName ((fileL bs).take k) k := k3
    rw [k3', n2] at e2
    exact (e2.under hW).open 0 (bs.take n) rest (by decide) n6 n5
end Go.Proofs.Ytlgaianlkbaedaa

