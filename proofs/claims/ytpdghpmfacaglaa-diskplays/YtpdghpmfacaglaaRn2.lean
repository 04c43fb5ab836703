/- What the document's disk does in place: Sync, Cut, Remove. -/
import Derived.Test.YtpdghpmfacaglaaRn1
import Derived.Deep.RegionHeld3
namespace Go.Proofs.Ytpdghpmfacaglaa
open Go.RowKit Go.Maps Go.Sort
set_option maxRecDepth 100000
set_option linter.unusedSimpArgs false
set_option linter.unusedVariables false

theorem set_set {l : List AF} {i : Nat} {x y : AF} : (l.set i x).set i y = l.set i y := by simp
theorem set_at {l : List AF} {i : Nat} {x y : AF} (h : l[i]? = some x) : (l.set i y)[i]? = some y := by
  have hl := (List.getElem?_eq_some_iff.1 h).1
  simp [hl]

set_option maxHeartbeats 1600000 in
theorem rsync_any {w : World} {T : Nat → Prop} {r size : Nat} {v : Value} {l : List AF} (h : RefM w T r size v l) (hl : l.length ≤ 256) (hs : Srt l) (n : ByteArray) :
    Calls Try.prog 29 #[.pointer (some ⟨r, 0, none⟩), .string n] w fun e w' => e = .returned (.int .i64 (synE l n : Int)) ∧ RAfter T w w' r size (synL l n) := by
  have HA := hid (at_any h (by omega) n)
  unfold synE synL
  cases hi : idx l n.data.toList with
  | none =>
    rw [idxI_no hi] at HA
    have hno := (idx_no hi).1
    have HR := hid (RAfter.same h (Below.refl _ _))
    simp only [hno, Option.isSome_none, Bool.false_eq_true, false_and, if_false]
    clear h hno
    go_enter Try.func29, Try.ntmps29
    go_wp2_with fail
    refine HA.out.mono ?_
    rintro e w2 ⟨rfl, h⟩
    have h' := h.symm
    subst h'
    go_wp2_with fail
    go_ret
    exact ⟨rfl, HR.out⟩
  | some i =>
    rw [idxI_yes hi] at HA
    obtain ⟨x, hx, hxn, hlk, hil⟩ := idx_yes hi
    have hb := (look_bytes hlk).1
    rw [hlk, hb, ← hxn]
    simp only [Option.isSome_some, if_true]
    obtain ⟨g, cap, rfl, hcap, hcm⟩ := h.place hx
    have c1 := h.c1
    have p1 := (h.at_ i x hx).2.1
    have p2 := (h.at_ i x hx).2.2
    have f2 := h.free (i * 3 + 2)
    have hsz : (strOf x.bs).size = x.bs.length := by simp [strOf, ByteArray.size]
    have hi0 : ¬ (i : Int) < 0 := by omega
    have hil' : (i : Int) < (l.length : Int) := by omega
    rw [aput_at (y := ⟨x.name, x.bs, x.bs.length⟩) hs hx rfl]
    have HR : Hid (∀ k, RAfter T w ((w.drewN k).setCell ⟨g, i * 3 + 2, none⟩ (.int .i64 (x.bs.length : Int))) r size (l.set i ⟨x.name, x.bs, x.bs.length⟩)) := fun k => by
      have h1 := (h.under (below_drewN (Below.refl _ _) k)).set2 hx x.bs.length
      have h2 : Keeps T w ((w.drewN k).setCell ⟨g, i * 3 + 2, none⟩ (.int .i64 (x.bs.length : Int))) := (Keeps.of_below (below_drewN (Below.refl _ _) k)).trans (keeps_set (h.rowT g rfl)) (fun x hx => .inl hx)
      exact RAfter.in h1 h2
    clear h hlk hb hx hxn hi hs
    go_enter Try.func29, Try.ntmps29
    go_wp2_with fail
    refine HA.out.mono ?_
    rintro e w2 ⟨rfl, h⟩
    have h' := h.symm
    subst h'
    go_wp2_with fail
    go_region
    all_goals
      go_wp2_with fail
      go_ret
      exact ⟨rfl, HR.out _⟩

theorem extract_take2 (l : List UInt8) (k : Nat) : (strOf l).extract 0 k = strOf (l.take k) := by
  apply ByteArray.ext
  simp [strOf]
theorem cut_at {l : List AF} {i : Nat} {x : AF} (hs : Srt l) (hx : l[i]? = some x) (b : List UInt8) (s : Nat) : aput l ⟨x.name, b, s⟩ = l.set i ⟨x.name, b, s⟩ := aput_at hs hx rfl

set_option maxHeartbeats 1600000 in
theorem rcut_any {w : World} {T : Nat → Prop} {r size : Nat} {v : Value} {l : List AF} (h : RefM w T r size v l) (hl : l.length ≤ 256) (hs : Srt l) (ht : ∀ x ∈ l, x.bs.length ≤ 16777216 ∧ x.safe ≤ x.bs.length) (n : ByteArray) (c : Int) :
    Calls Try.prog 31 #[.pointer (some ⟨r, 0, none⟩), .string n, .int .i64 c] w fun e w' => e = .returned (.int .i64 (cutE l n c : Int)) ∧ RAfter T w w' r size (cutL l n c) := by
  have HA := hid (at_any h (by omega) n)
  unfold cutE cutL
  cases hi : idx l n.data.toList with
  | none =>
    rw [idxI_no hi] at HA
    have hno := (idx_no hi).1
    have HR := hid (RAfter.same h (Below.refl _ _))
    simp only [hno, Option.isSome_none, Bool.false_eq_true, false_and, if_false]
    clear h hno
    go_enter Try.func31, Try.ntmps31
    go_wp2_with fail
    refine HA.out.mono ?_
    rintro e w2 ⟨rfl, h⟩
    have h' := h.symm
    subst h'
    go_wp2_with fail
    go_ret
    exact ⟨rfl, HR.out⟩
  | some i =>
    rw [idxI_yes hi] at HA
    obtain ⟨x, hx, hxn, hlk, hil⟩ := idx_yes hi
    obtain ⟨hb, hsf⟩ := look_bytes hlk
    rw [hlk, hb, hsf, ← hxn]
    simp only [Option.isSome_some, if_true, true_and]
    obtain ⟨g, cap, rfl, hcap, hcm⟩ := h.place hx
    have c1 := h.c1
    have p1 := (h.at_ i x hx).2.1
    have p2 := (h.at_ i x hx).2.2
    have f1 := h.free (i * 3 + 1)
    have f2 := h.free (i * 3 + 2)
    have hsz : (strOf x.bs).size = x.bs.length := by simp [strOf, ByteArray.size]
    have hi0 : ¬ (i : Int) < 0 := by omega
    have hil' : (i : Int) < (l.length : Int) := by omega
    obtain ⟨hxb, hxs⟩ := ht x (mem_at hx)
    have HR0 := hid (RAfter.same h (Below.refl _ _))
    by_cases hc0 : c < 0
    · have e1 : ¬ (0 ≤ c ∧ c ≤ (x.bs.length : Int)) := by omega
      rw [if_neg e1, if_neg e1]
      clear h hlk hb hx hxn hi hs e1
      go_enter Try.func31, Try.ntmps31
      go_wp2_with fail
      refine HA.out.mono ?_
      rintro e w2 ⟨rfl, h⟩
      have h' := h.symm
      subst h'
      go_wp2_with fail
      go_ret
      exact ⟨rfl, HR0.out⟩
    by_cases hc1 : (x.bs.length : Int) < c
    · have e1 : ¬ (0 ≤ c ∧ c ≤ (x.bs.length : Int)) := by omega
      rw [if_neg e1, if_neg e1]
      clear h hlk hb hx hxn hi hs e1
      go_enter Try.func31, Try.ntmps31
      go_wp2_with fail
      refine HA.out.mono ?_
      rintro e w2 ⟨rfl, h⟩
      have h' := h.symm
      subst h'
      go_wp2_with fail
      go_ret
      exact ⟨rfl, HR0.out⟩
    have e1 : 0 ≤ c ∧ c ≤ (x.bs.length : Int) := by omega
    rw [if_pos e1, if_pos e1]
    obtain ⟨k, rfl⟩ := Int.eq_ofNat_of_zero_le e1.1
    have hk : k ≤ x.bs.length := by omega
    have hkz : (k : Int) ≤ (x.bs.length : Int) := by omega
    have hx1 := extract_take2 x.bs k
    have HE := hid (cut_at hs hx (x.bs.take k) (min x.safe k))
    have HR : Hid (RAfter T w ((w.setCell ⟨g, i * 3 + 1, none⟩ (.string (strOf (x.bs.take k)))).setCell ⟨g, i * 3 + 2, none⟩ (.int .i64 ((min x.safe k : Nat) : Int))) r size (l.set i ⟨x.name, x.bs.take k, min x.safe k⟩)) := by
      have h1 := h.set1 hx (x.bs.take k)
      have h2 := h1.set2 (set_at hx) (min x.safe k)
      rw [set_set] at h2
      exact RAfter.in h2 ((keeps_set (h.rowT g rfl)).trans (keeps_set (h.rowT g rfl)) (fun x hx => .inl hx))
    have hmin : ((min x.safe k : Nat) : Int) = min (x.safe : Int) (k : Int) := by omega
    rw [hmin] at HR
    have htn : (k : Int).toNat = k := by omega
    rw [htn]
    have HE2 := hid HE.out
    clear h hlk hb hx hxn hi hs e1 hmin HE HR0 hsf ht
    go_enter Try.func31, Try.ntmps31
    go_wp2_with fail
    refine HA.out.mono ?_
    rintro e w2 ⟨rfl, h⟩
    have h' := h.symm
    subst h'
    go_wp2_with fail
    go_ret
    exact ⟨rfl, by rw [HE2.out]; exact HR.out⟩

set_option maxHeartbeats 1600000 in
theorem rremove_any {w : World} {T : Nat → Prop} {r size : Nat} {v : Value} {l : List AF} (h : RefM w T r size v l) (hl : l.length ≤ 256) (hs : Srt l) (n : ByteArray) :
    Calls Try.prog 36 #[.pointer (some ⟨r, 0, none⟩), .string n] w fun e w' => e = .returned (.int .i64 (synE l n : Int)) ∧ RAfter T w w' r size (remL l n) := by
  have HA := hid (at_any h (by omega) n)
  unfold synE remL
  cases hi : idx l n.data.toList with
  | none =>
    rw [idxI_no hi] at HA
    have hno := (idx_no hi).1
    have HR := hid (RAfter.same h (Below.refl _ _))
    simp only [hno, Option.isSome_none, Bool.false_eq_true, false_and, if_false]
    clear h hno
    go_enter Try.func36, Try.ntmps36
    go_wp2_with fail
    refine HA.out.mono ?_
    rintro e w2 ⟨rfl, h⟩
    have h' := h.symm
    subst h'
    go_wp2_with fail
    go_ret
    exact ⟨rfl, HR.out⟩
  | some i =>
    rw [idxI_yes hi] at HA
    obtain ⟨x, hx, hxn, hlk, hil⟩ := idx_yes hi
    rw [hlk, ← hxn]
    simp only [Option.isSome_some, if_true]
    obtain ⟨g, cap, rfl, hcap, hcm⟩ := h.place hx
    have HD := hid (drop_walk h (by omega) hcap (by unfold maxLen at hcm; exact hcm) i hil)
    rw [← adel_at hs hx] at HD
    have hi0 : ¬ (i : Int) < 0 := by omega
    clear h hlk hi hs hx hxn
    go_enter Try.func36, Try.ntmps36
    go_wp2_with fail
    refine HA.out.mono ?_
    rintro e w2 ⟨rfl, h⟩
    have h' := h.symm
    subst h'
    go_wp2_with fail
    refine HD.out.mono ?_
    rintro e w3 ⟨rfl, hr⟩
    have HR := hid hr
    clear hr
    go_wp2_with fail
    go_ret
    exact ⟨rfl, HR.out⟩
end Go.Proofs.Ytpdghpmfacaglaa
