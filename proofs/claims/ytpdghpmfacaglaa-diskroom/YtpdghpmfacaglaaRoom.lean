/- DiskRoom, the walk: it answers true and turns nothing that was there. -/
import Derived.Test.YtpdghpmfacaglaaErrs
namespace Go.Proofs.Ytpdghpmfacaglaa
open Go.RowKit Go.Maps Go.Sort
set_option maxRecDepth 100000
set_option linter.unusedSimpArgs false
set_option linter.unusedVariables false

theorem totalA_step : ∀ (l : List AF) (k : Nat) (hk : k < l.length), totalA (l.take (k + 1)) = totalA (l.take k) + l[k].bs.length
  | [], k, hk => by simp at hk
  | y :: r, 0, _ => by simp [totalA]
  | y :: r, k + 1, hk => by
    have := totalA_step r k (by simpa using hk)
    simp only [List.take_succ_cons, totalA, this, List.getElem_cons_succ]
    omega

theorem totalA_take_le : ∀ (l : List AF) (k : Nat), totalA (l.take k) ≤ totalA l
  | [], k => by simp
  | y :: r, 0 => by simp [totalA]
  | y :: r, k + 1 => by have := totalA_take_le r k; simp only [List.take_succ_cons, totalA]; omega

theorem less_before : ∀ (a b : List UInt8), Op.bytesLess a b = bytesBefore a b
  | [], [] => rfl
  | [], _ :: _ => rfl
  | _ :: _, [] => rfl
  | a :: r, b :: s => by simp only [Op.bytesLess, bytesBefore, less_before r s]

theorem strOf_list (l : List UInt8) : (strOf l).toList = l := by
  rw [Lib.toList_data]
  simp [strOf]

theorem le_false {x y : List UInt8} (h : bytesBefore y x = true) : (Op.bytesLess (strOf x).toList (strOf y).toList || (strOf x).toList == (strOf y).toList) = false := by
  rw [strOf_list, strOf_list, less_before, before_asymm h]
  have := before_ne h
  simp
  exact fun e => this e.symm

set_option maxHeartbeats 1600000 in
theorem room_walk (w : World) (c : Int) (so : Option Addr) (ops : List OpV) (cap : Nat) (hops : Hid (OpsAt w so ops)) (hol : ops.length ≤ 9223372036854775807) (r : Int) (n : Nat) (hr : Hid (1 + r = (n : Int))) (hr0 : 0 ≤ r) (hr1 : r < 2000)
    (hpick : Hid (∀ W, Calls Try.prog 17 #[.int .i64 c, .int .i64 2000] W fun e w' => e = .returned (.int .i64 r) ∧ w' = W)) :
    Calls Try.prog 6 #[.int .i64 c, .slice so ops.length cap] w fun e w' => e = .returned (.bool true) ∧ Below w.heap.size w w' := by
  have hn1 : 1 ≤ n := by have := hr.out; omega
  have hn2 : n ≤ 2000 := by have := hr.out; omega
  have hrn : 1 + r = (n : Int) := hr.out
  have HSh : Hid (Calls Try.prog 9 #[] w fun e w' => e = .returned (.bool true) ∧ Below w.heap.size w w') := shown_any w
  have HRun : Hid (∀ W, Below w.heap.size w W → Calls Try.prog 24 #[.int .i64 (n : Int), .slice so ops.length cap] W fun e w' => e = .returned (.pointer (some ⟨W.heap.size, 0, none⟩)) ∧ ∃ S, On w.heap.size w w' W.heap.size n (runL n (ops.take 100)) S ∧ (∀ k, S k → W.heap.size ≤ k) ∧ Below W.heap.size W w') := fun W hW =>
    runOn hW hW.size n hn1 (by omega) so ops cap (hops.out.under hW) hol _ rfl
  generalize runL n (ops.take 100) = l at *
  go_enter Try.func6, Try.ntmps6
  go_wp2_with (go_at_call 9; refine HSh.out.mono ?_; rintro e w1 ⟨rfl, hb1⟩)
  go_wp2_with (go_at_call 17; refine (hpick.out _).mono ?_; rintro e w2 ⟨rfl, rfl⟩)
  go_wp2_with (go_at_call 24; refine (HRun.out _ hb1).mono ?_; rintro e w3 ⟨rfl, Sd, hd3, -, -⟩; clear hb1)
  generalize w2.heap.size = pd at *
  obtain ⟨f1, f2, f3, f4, f5⟩ := hd3.1.facts
  have HF4 : Hid (l.Pairwise (fun x y => bytesBefore x.name y.name = true)) := f4
  clear f2 f4 f5
  go_wp2_with (go_at_call 23; refine (namesX hd3.1 (Below.refl _ _)).mono ?_; rintro e w4 ⟨oa, ca, rfl, hn4, hb4⟩)
  have HN : Hid (NamesAt w4 w3.heap.size oa l) := hn4
  have HD : Hid (∀ W, Below w4.heap.size w4 W → On w.heap.size w W pd n l Sd) := fun W hW => (hd3.under hb4).under hW
  clear hn4 hd3 hb4 hops hol hpick hr HSh HRun hrn hr0 hr1
  go_loopw [8, 9] (fun s0 i0 wr => ∃ k : Nat, k ≤ l.length ∧ i0 = .int .i64 (k : Int) ∧ s0 = .int .i64 (totalA (l.take k) : Int) ∧ Hid (Below w4.heap.size w4 wr)) (fun _ i0 _ => l.length - (intOf i0).toNat)
  case atStart => exact ⟨0, Nat.zero_le _, rfl, rfl, Below.refl _ _⟩
  case round =>
    obtain ⟨k, hkl, rfl, rfl, hI⟩ := hrel
    have htk := totalA_take_le l k
    by_cases hlt : k < l.length
    · have hk' : (k : Int) < (l.length : Int) := by omega
      obtain ⟨g, hge, hg1, hg2, hgc⟩ := HN.out (by omega)
      subst hge
      have hxk : l[k]? = some l[k] := List.getElem?_eq_getElem hlt
      have hmem : l[k] ∈ l := List.getElem_mem _
      have hst := totalA_step l k hlt
      have htk2 := totalA_take_le l (k + 1)
      have Hc : Hid (∀ W, Below w4.heap.size w4 W → ∀ j x, l[j]? = some x → W.cell? ⟨g, j, none⟩ = some (.string (strOf x.name))) := fun W hW j x hx => (hW.cell (p := ⟨g, j, none⟩) hg2).trans (hgc j x hx)
      obtain ⟨_, _, _, _, hbl, hsl⟩ := (HD.out _ hI.out).1.at_mem hmem
      have HPrev : Hid (∀ j y, j + 1 = k → l[j]? = some y → bytesBefore y.name l[k].name = true) := fun j y hj hy => by
        subst hj
        have hj' : j < l.length := by omega
        have e : y = l[j] := by rw [List.getElem?_eq_getElem hj'] at hy; exact (Option.some.inj hy).symm
        rw [e]
        exact List.pairwise_iff_getElem.1 HF4.out j (j + 1) hj' hlt (by omega)
      generalize l[k] = x at *
      have HMem : Hid (x ∈ l) := hmem
      have HSt : Hid (totalA (l.take (k + 1)) = totalA (l.take k) + x.bs.length) := hst
      have hsum : totalA (l.take k) + x.bs.length ≤ 2000 := by omega
      have hxs : (strOf x.bs).size = x.bs.length := by simp [strOf, ByteArray.size]
      have s1 : decide ((x.safe : Int) < 0) = false := by simp
      have s2 : decide (x.bs.length < x.safe) = false := by simp; omega
      have p1 := Hc.out _ hI.out k x hxk
      clear hst hmem hgc htk2
      by_cases hk0 : k = 0
      · have hk0' : decide (0 < k) = false := by simp; omega
        clear hk0
        go_wp2_with (go_at_call 19; refine (readX (HD.out _ hI.out).1 HMem.out).mono ?_; rintro e w5 ⟨rfl, hb5⟩; have hb5' : Below w4.heap.size w4 w5 := hI.out.trans (hb5.mono hI.out.size); have p2 := Hc.out _ hb5' k x hxk)
        clear hxk hb5 p1 HPrev
        go_quiet ((first
          | (go_at_call 25; exact Calls.quiet_of_same (sizeX (HD.out _ (by exact ⟨hb5'.os, hb5'.tape, hb5'.output, hb5'.size, hb5'.block⟩)).1 HMem.out))
          | (go_at_call 20; exact Calls.quiet_of_same (syncedX (HD.out _ (by exact ⟨hb5'.os, hb5'.tape, hb5'.output, hb5'.size, hb5'.block⟩)).1 HMem.out))))
        go_wp2
        go_roundw
        case rel => exact ⟨k + 1, by omega, by go_num, by rw [HSt.out]; go_num, below_drewN hb5' _⟩
        case measure => simp [intOf]; omega
      · obtain ⟨j, rfl⟩ : ∃ j, k = j + 1 := ⟨k - 1, by omega⟩
        have hj : j < l.length := by omega
        have hyj : l[j]? = some l[j] := List.getElem?_eq_getElem hj
        have hbf := HPrev.out j _ rfl hyj
        generalize l[j] = y at *
        have hle : (Op.bytesLess (strOf x.name).toList (strOf y.name).toList || (strOf x.name).toList == (strOf y.name).toList) = false := le_false hbf
        have hj1 : (j : Int) < (l.length : Int) := by omega
        clear hk0 HPrev hbf
        go_wp2_with (go_at_call 19; refine (readX (HD.out _ hI.out).1 HMem.out).mono ?_; rintro e w5 ⟨rfl, hb5⟩; have hb5' : Below w4.heap.size w4 w5 := hI.out.trans (hb5.mono hI.out.size); have p2 := Hc.out _ hb5' (j + 1) x hxk; have p3 := Hc.out _ hb5' j y hyj)
        clear hxk hyj hb5 p1
        go_quiet ((first
          | (go_at_call 25; exact Calls.quiet_of_same (sizeX (HD.out _ (by exact ⟨hb5'.os, hb5'.tape, hb5'.output, hb5'.size, hb5'.block⟩)).1 HMem.out))
          | (go_at_call 20; exact Calls.quiet_of_same (syncedX (HD.out _ (by exact ⟨hb5'.os, hb5'.tape, hb5'.output, hb5'.size, hb5'.block⟩)).1 HMem.out))))
        go_wp2
        go_roundw
        case rel => exact ⟨j + 1 + 1, by omega, by go_num, by rw [HSt.out]; go_num, below_drewN hb5' _⟩
        case measure => simp [intOf]; omega
    · have hk' : ¬ ((k : Int) < (l.length : Int)) := by omega
      have e1 : l.take k = l := List.take_of_length_le (by omega)
      have HFr : Hid (Calls Try.prog 21 #[.pointer (some ⟨pd, 0, none⟩)] wr fun e w' => e = .returned (.int .i64 ((n : Int) - (totalA (l.take k) : Int))) ∧ Below wr.heap.size wr w') := by
        have := freeA (HD.out _ hI.out).1
        rw [e1, show ((n : Int) - (totalA l : Int)) = ((n - totalA l : Nat) : Int) from by omega]
        exact this
      have hle : (totalA (l.take k) : Int) ≤ (n : Int) := by omega
      clear e1 hlt
      go_wp2_with (go_at_call 21; refine HFr.out.mono ?_; rintro e w6 ⟨rfl, hb6⟩)
      go_ret
      exact ⟨rfl, ((HD.out _ hI.out).under hb6).2.2.1⟩
end Go.Proofs.Ytpdghpmfacaglaa
