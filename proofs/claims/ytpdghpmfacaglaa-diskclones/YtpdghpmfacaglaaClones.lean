/- DiskClones, the walk: it answers true and turns nothing that was there. -/
import Derived.Test.YtpdghpmfacaglaaErrs
namespace Go.Proofs.Ytpdghpmfacaglaa
open Go.RowKit Go.Maps Go.Sort
set_option maxRecDepth 100000
set_option linter.unusedSimpArgs false
set_option linter.unusedVariables false

theorem hid {p : Prop} (h : p) : Hid p := h

/-- A call of one disk beside two others. -/
theorem callsBeside {B : Nat} {w0 w : World} {pa pd pb n : Nat} {la ld lb : List AF} {Sa Sd Sb : Nat → Prop} (ha : On B w0 w pa n la Sa) (hd : On B w0 w pd n ld Sd) (hb : On B w0 w pb n lb Sb) (hs : ∀ k, Sa k → ¬ Sd k ∧ ¬ Sb k) (o : OpV) (ho : o.ok) :
    Calls Try.prog 26 #[.pointer (some ⟨pa, 0, none⟩), o.val] w fun e w' => ∃ E : Int, e = .returned (.int .i64 E) ∧ ∃ la' Sa', On B w0 w' pa n la' Sa' ∧ On B w0 w' pd n ld Sd ∧ On B w0 w' pb n lb Sb ∧ (∀ k, Sa' k → ¬ Sd k ∧ ¬ Sb k) := by
  refine (callsA ha.1 o ho).mono (fun e w' ⟨he, hA⟩ => ⟨_, he, ?_⟩)
  obtain ⟨Sa', ha', g1, g3⟩ := ha.step hA
  refine ⟨_, Sa', ha', hd.beside ha' g3 (fun k hk hs' => (hs k hs').1 hk), hb.beside ha' g3 (fun k hk hs' => (hs k hs').2 hk), fun k hk => ?_⟩
  rcases g1 k hk with h | h
  · exact hs k h
  · exact ⟨fun h' => by have := hd.1.below k h'; omega, fun h' => by have := hb.1.below k h'; omega⟩

/-- The parts of a script's call in a later world. -/
theorem op_at {w : World} {so : Option Addr} {ops : List OpV} (h : OpsAt w so ops) (k : Nat) (hk : k < ops.length) : ∃ (b off : Nat) (o : OpV), so = some ⟨b, off, none⟩ ∧ o.ok ∧ ∀ W, Below w.heap.size w W →
    W.cell? ⟨b, off + k * 5, none⟩ = some (.int .i64 o.kind) ∧ W.cell? ⟨b, off + k * 5 + 1, none⟩ = some (.string o.name) ∧ W.cell? ⟨b, off + k * 5 + 2, none⟩ = some (.string o.b) ∧ W.cell? ⟨b, off + k * 5 + 3, none⟩ = some (.int .i64 o.n) ∧ W.cell? ⟨b, off + k * 5 + 4, none⟩ = some o.keep := by
  rcases h with h | ⟨b, off, e, hbw, hc⟩
  · rw [h] at hk; simp at hk
  · refine ⟨b, off, ops[k], e, (hc k hk).1, fun W hW => ?_⟩
    obtain ⟨q0, q1, q2, q3, q4⟩ := (hc k hk).2
    exact ⟨(hW.cell (p := ⟨b, _, none⟩) hbw).trans q0, (hW.cell (p := ⟨b, _, none⟩) hbw).trans q1, (hW.cell (p := ⟨b, _, none⟩) hbw).trans q2, (hW.cell (p := ⟨b, _, none⟩) hbw).trans q3, (hW.cell (p := ⟨b, _, none⟩) hbw).trans q4⟩

set_option maxHeartbeats 6400000 in
theorem clones_walk (w : World) (c : Int) (so : Option Addr) (ops : List OpV) (cap : Nat) (mo : Option Addr) (mine : List OpV) (mcap : Nat) (to : Option Addr) (theirs : List OpV) (tcap : Nat) (hops : Hid (OpsAt w so ops)) (hol : ops.length ≤ 9223372036854775807)
    (hmine : Hid (OpsAt w mo mine)) (hml : mine.length ≤ 9223372036854775807) (htheirs : Hid (OpsAt w to theirs)) (htl : theirs.length ≤ 9223372036854775807) (r : Int) (n : Nat) (hr : Hid (1 + r = (n : Int))) (hr0 : 0 ≤ r) (hr1 : r < 2000)
    (hpick : Hid (∀ W, Calls Try.prog 17 #[.int .i64 c, .int .i64 2000] W fun e w' => e = .returned (.int .i64 r) ∧ w' = W)) :
    Calls Try.prog 8 #[.int .i64 c, .slice so ops.length cap, .slice mo mine.length mcap, .slice to theirs.length tcap] w fun e w' => e = .returned (.bool true) ∧ Below w.heap.size w w' := by
  have hn1 : 1 ≤ n := by have := hr.out; omega
  have hn2 : n ≤ 2000 := by have := hr.out; omega
  have hrn : 1 + r = (n : Int) := hr.out
  have HSh : Hid (Calls Try.prog 9 #[] w fun e w' => e = .returned (.bool true) ∧ Below w.heap.size w w') := shown_any w
  have HRun : Hid (∀ W, Below w.heap.size w W → Calls Try.prog 24 #[.int .i64 (n : Int), .slice so ops.length cap] W fun e w' => e = .returned (.pointer (some ⟨W.heap.size, 0, none⟩)) ∧ ∃ S, On w.heap.size w w' W.heap.size n (runL n (ops.take 100)) S ∧ (∀ k, S k → W.heap.size ≤ k) ∧ Below W.heap.size W w') := fun W hW =>
    runOn hW hW.size n hn1 (by omega) so ops cap (hops.out.under hW) hol _ rfl
  generalize runL n (ops.take 100) = l at *
  go_enter Try.func8, Try.ntmps8
  go_wp2_with (go_at_call 9; refine HSh.out.mono ?_; rintro e w1 ⟨rfl, hb1⟩)
  go_wp2_with (go_at_call 17; refine (hpick.out _).mono ?_; rintro e w2 ⟨rfl, rfl⟩)
  go_wp2_with (go_at_call 24; refine (HRun.out _ hb1).mono ?_; rintro e w3 ⟨rfl, Sd, hd3, hSd, -⟩; clear hSd hb1)
  generalize w2.heap.size = pd at *
  go_wp2_with (go_at_call 14; refine (cloneOn hd3).mono ?_; rintro e w4 ⟨rfl, hd4, Sa, ha4, hSa, hb4⟩; have hda : ∀ k, Sa k → ¬ Sd k := fun k hk hs => (by have := hd3.1.below k hs; have := hSa k hk; omega); clear hd3 hb4 hSa)
  generalize w3.heap.size = pa at *
  go_wp2_with (go_at_call 14; refine (cloneOn hd4).mono ?_; rintro e w5 ⟨rfl, hd5, Sb, hb5, hSb, hbl5⟩; have hdb : ∀ k, Sb k → ¬ Sd k := fun k hk hs => (by have := hd4.1.below k hs; have := hSb k hk; omega); have hab : ∀ k, Sa k → ¬ Sb k := fun k hk hs => (by have := ha4.1.below k hk; have := hSb k hs; omega); have ha5 := ha4.under hbl5; clear hd4 hSb hbl5 ha4)
  generalize w4.heap.size = pb at *
  have HI : Hid (On w.heap.size w w5 pa n l Sa ∧ On w.heap.size w w5 pd n l Sd ∧ On w.heap.size w w5 pb n l Sb ∧ (∀ k, Sa k → ¬ Sd k ∧ ¬ Sb k)) := ⟨ha5, hd5, hb5, fun k hk => ⟨hda k hk, hab k hk⟩⟩
  have HDb : Hid (∀ k, Sb k → ¬ Sd k) := hdb
  clear ha5 hd5 hb5 hda hab hdb
  go_loopw [13] (fun i0 wr => ∃ (k : Nat) (la : List AF) (Sa : Nat → Prop), k ≤ mine.length ∧ k ≤ 30 ∧ i0 = .int .i64 (k : Int) ∧ Hid (On w.heap.size w wr pa n la Sa ∧ On w.heap.size w wr pd n l Sd ∧ On w.heap.size w wr pb n l Sb ∧ (∀ k, Sa k → ¬ Sd k ∧ ¬ Sb k))) (fun i0 _ => mine.length - (intOf i0).toNat)
  case atStart => exact ⟨0, _, _, Nat.zero_le _, by omega, rfl, HI.out⟩
  case round =>
    clear HI
    obtain ⟨k, la, Sa', hkl, hk30, rfl, hI⟩ := hrel
    by_cases hgo : k < mine.length ∧ k < 30
    · obtain ⟨hk1, hk2⟩ := hgo
      have hk1' : (k : Int) < (mine.length : Int) := by omega
      have hk2' : (k : Int) < 30 := by omega
      obtain ⟨b, off, o, hse, hok, hcs⟩ := op_at hmine.out k hk1
      obtain ⟨p0, p1, p2, p3, p4⟩ := hcs wr hI.out.1.2.2.1
      have HC : Hid (Calls Try.prog 26 #[.pointer (some ⟨pa, 0, none⟩), o.val] wr fun e w' => ∃ E : Int, e = .returned (.int .i64 E) ∧ ∃ la' Sa', On w.heap.size w w' pa n la' Sa' ∧ On w.heap.size w w' pd n l Sd ∧ On w.heap.size w w' pb n l Sb ∧ (∀ k, Sa' k → ¬ Sd k ∧ ¬ Sb k)) := callsBeside hI.out.1 hI.out.2.1 hI.out.2.2.1 hI.out.2.2.2 o hok
      obtain ⟨kind, name, bb, nn, keep⟩ := o
      obtain ⟨oa, kl, kc, hke⟩ := hok.2.2.2
      simp only at hke p0 p1 p2 p3 p4
      subst hke
      subst hse
      clear hcs hok
      go_wp2_with (go_at_call 26; refine HC.out.mono ?_; rintro e w6 ⟨E, rfl, la', Sa2, hJ⟩)
      go_roundw
      case rel => exact ⟨k + 1, la', Sa2, by omega, by omega, by go_num, hJ⟩
      case measure => simp [intOf]; omega
    · have hex : ((k : Int) < (mine.length : Int) ∧ ¬ ((k : Int) < 30)) ∨ (¬ ((k : Int) < (mine.length : Int)) ∧ True) := by
        by_cases h : k < mine.length
        · exact .inl ⟨by omega, by omega⟩
        · exact .inr ⟨by omega, trivial⟩
      have HOne : Hid (Calls Try.prog 27 #[.pointer (some ⟨pb, 0, none⟩), .pointer (some ⟨pd, 0, none⟩)] wr fun e w' => e = .returned (.bool true) ∧ Below wr.heap.size wr w') := one_walk wr pb pd n l Sb Sd hI.out.2.2.1.1 hI.out.2.1.1
      clear hgo hkl hk30
      rcases hex with ⟨h1', h2'⟩ | ⟨h1', h2'⟩
      all_goals
        go_wp2_with (go_at_call 27; refine HOne.out.mono ?_; rintro e w7 ⟨rfl, hb7⟩)
        have HJ : Hid (On w.heap.size w w7 pb n l Sb ∧ On w.heap.size w w7 pd n l Sd) := ⟨hI.out.2.2.1.under hb7, hI.out.2.1.under hb7⟩
        clear hb7 hI HOne
        go_loopw [15] (fun i0 wr => ∃ (k : Nat) (lb : List AF) (Sb : Nat → Prop), k ≤ theirs.length ∧ k ≤ 30 ∧ i0 = .int .i64 (k : Int) ∧ Hid (On w.heap.size w wr pb n lb Sb ∧ On w.heap.size w wr pd n l Sd ∧ (∀ k, Sb k → ¬ Sd k))) (fun i0 _ => theirs.length - (intOf i0).toNat)
        case atStart => exact ⟨0, _, _, Nat.zero_le _, by omega, rfl, HJ.out.1, HJ.out.2, HDb.out⟩
        case round =>
          clear HJ HDb
          obtain ⟨k2, lb, Sb', hkl, hk30, rfl, hK⟩ := hrel
          by_cases hgo : k2 < theirs.length ∧ k2 < 30
          · obtain ⟨hk1, hk2⟩ := hgo
            have hk1' : (k2 : Int) < (theirs.length : Int) := by omega
            have hk2' : (k2 : Int) < 30 := by omega
            obtain ⟨b, off, o, hse, hok, hcs⟩ := op_at htheirs.out k2 hk1
            obtain ⟨p0, p1, p2, p3, p4⟩ := hcs _ hK.out.1.2.2.1
            have HC := callsBeside hK.out.1 hK.out.2.1 hK.out.2.1 (fun k hk => ⟨hK.out.2.2 k hk, hK.out.2.2 k hk⟩) o hok
            obtain ⟨kind, name, bb, nn, keep⟩ := o
            obtain ⟨oa, kl, kc, hke⟩ := hok.2.2.2
            simp only at hke p0 p1 p2 p3 p4
            subst hke
            subst hse
            clear hcs hok
            have HC' := hid HC
            clear HC
            go_wp2_with (go_at_call 26; refine HC'.out.mono ?_; rintro e w8 ⟨E, rfl, lb', Sb2, hJ1, hJ2, -, hJ3⟩)
            go_roundw
            case rel => exact ⟨k2 + 1, lb', Sb2, by omega, by omega, by go_num, hJ1, hJ2, fun k hk => (hJ3 k hk).1⟩
            case measure => simp [intOf]; omega
          · have hex2 : ((k2 : Int) < (theirs.length : Int) ∧ ¬ ((k2 : Int) < 30)) ∨ (¬ ((k2 : Int) < (theirs.length : Int)) ∧ True) := by
              by_cases h : k2 < theirs.length
              · exact .inl ⟨by omega, by omega⟩
              · exact .inr ⟨by omega, trivial⟩
            have hbw := hK.out.1.2.2.1
            clear hgo hkl hk30
            rcases hex2 with ⟨g1', g2'⟩ | ⟨g1', g2'⟩
            all_goals
              go_wp2_with (go_at_call 17; refine (hpick.out _).mono ?_; rintro e w8 ⟨rfl, hw8⟩; have hw8' := hw8.symm; subst hw8')
              go_wp2_with (go_at_call 24; refine (HRun.out _ hbw).mono ?_; rintro e w9 ⟨rfl, Sc, hc9, -, hb9⟩; have hd9 := hK.out.2.1.under hb9; clear hb9)
              go_wp2_with (go_at_call 27; refine (one_walk _ _ _ n l Sc Sd hc9.1 hd9.1).mono ?_; rintro e w10 ⟨rfl, hb10⟩; have hd10 := hd9.under hb10; clear hb10)
              go_ret
              exact ⟨rfl, hd10.2.2.1⟩
end Go.Proofs.Ytpdghpmfacaglaa
