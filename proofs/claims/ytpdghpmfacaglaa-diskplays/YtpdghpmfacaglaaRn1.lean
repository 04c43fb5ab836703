/- What the document's disk tells: Name, made, Read, Size, Synced. -/
import Derived.Test.YtpdghpmfacaglaaRpu
namespace Go.Proofs.Ytpdghpmfacaglaa
open Go.RowKit Go.Maps Go.Sort
set_option maxRecDepth 100000
set_option linter.unusedSimpArgs false
set_option linter.unusedVariables false

set_option maxHeartbeats 1600000 in
theorem rname_any (s : ByteArray) (w : World) (hs : s.size ≤ maxLen) :
    Calls Try.prog 53 #[.string s] w fun e w' => e = .returned (.bool (nameB s)) ∧ w' = w := by
  unfold maxLen at hs
  by_cases h1 : s.size < 1
  · have h1' : (s.size : Int) < 1 := by omega
    go_enter Try.func53, Try.ntmps53
    go_wp2
    go_ret
    exact ⟨ret_bool (by have : ¬ 1 ≤ s.size := by omega
                        simp [nameB, this]), rfl⟩
  by_cases h2 : 64 < s.size
  · have h1' : ¬ (s.size : Int) < 1 := by omega
    have h2' : 64 < (s.size : Int) := by omega
    go_enter Try.func53, Try.ntmps53
    go_wp2
    go_ret
    exact ⟨ret_bool (by have : ¬ s.size ≤ 64 := by omega
                        simp [nameB, this]), rfl⟩
  have h1' : ¬ (s.size : Int) < 1 := by omega
  have h2' : ¬ 64 < (s.size : Int) := by omega
  go_enter Try.func53, Try.ntmps53
  go_wp2
  go_loop [3] (fun i => ∃ k : Nat, k ≤ s.size ∧ i = .int .i64 k ∧ Hid ((s.data.toList.take k).all (fun c => nameByteB (c.toNat : Int)) = true)) (fun i => s.size - (intOf i).toNat)
  case atStart => exact ⟨0, Nat.zero_le _, rfl, by show _ = true; simp⟩
  case round =>
    obtain ⟨k, hk, rfl, hall⟩ := hrel
    by_cases hlt : k < s.size
    · have hb0 : 0 ≤ (s[k].toNat : Int) := by omega
      have hb1 : (s[k].toNat : Int) ≤ 255 := by have := s[k].toNat_lt; omega
      cases hc : nameByteB (s[k].toNat : Int)
      · have H := all_end s k hlt hc
        have HH : Hid ((s.data.toList).all (fun c => nameByteB (c.toNat : Int)) = false) := H
        clear H
        go_wp2
        all_goals first
          | (exfalso; simp [nameByteB] at hc; (try simp only [bne_iff_ne, ne_eq, bne_eq_false_iff_eq] at *); omega)
          | (go_ret; exact ⟨ret_bool (by simp only [nameB, HH.out, Bool.and_false]), rfl⟩)
      · have HH : Hid ((s.data.toList.take (k + 1)).all (fun c => nameByteB (c.toNat : Int)) = true) := by show _ = true; rw [all_step s k hlt, hall.out, hc]; rfl
        go_wp2
        all_goals first
          | (exfalso; simp [nameByteB] at hc; (try simp only [bne_iff_ne, ne_eq, bne_eq_false_iff_eq] at *); omega)
          | exact ⟨⟨k + 1, by omega, by go_num, HH⟩, by simp [intOf]; omega⟩
    · go_wp2
      go_ret
      have hk' : k = s.size := by omega
      subst hk'
      have h3 := hall.out
      rw [List.take_of_length_le (by simp)] at h3
      exact ⟨ret_bool (by simp only [nameB, h3, Bool.and_true]; have : 1 ≤ s.size ∧ s.size ≤ 64 := by omega
                          simp [this]), rfl⟩

set_option maxHeartbeats 1600000 in
theorem rmade_any {w : World} {T : Nat → Prop} {r size : Nat} {v : Value} {l : List AF} (h : RefM w T r size v l) (hl : l.length ≤ 256) (n : ByteArray) (hn : n.size ≤ maxLen) :
    Calls Try.prog 48 #[.pointer (some ⟨r, 0, none⟩), .string n] w fun e w' => e = .returned (.int .i64 (admE l n : Int)) ∧ w' = w := by
  have HN := hid (rname_any n w hn)
  have HA := hid (at_any h (by omega) n)
  obtain ⟨oa, cap, rfl, hcap, hcm, hoa, _⟩ := h.shape
  have c1 := h.c1
  unfold admE
  clear h hoa
  cases hb : nameB n with
  | false =>
    rw [hb] at HN
    go_enter Try.func48, Try.ntmps48
    go_wp2_with fail
    refine HN.out.mono ?_
    rintro e w1 ⟨rfl, h⟩
    have h' := h.symm
    subst h'
    go_wp2_with fail
    go_ret
    exact ⟨rfl, rfl⟩
  | true =>
    rw [hb] at HN
    cases hi : idx l n.data.toList with
    | none =>
      rw [idxI_no hi] at HA
      have hno := (idx_no hi).1
      by_cases h3 : l.length < 256
      · have h3' : ¬ (256 : Int) ≤ (l.length : Int) := by omega
        go_enter Try.func48, Try.ntmps48
        go_wp2_with fail
        refine HN.out.mono ?_
        rintro e w1 ⟨rfl, h⟩
        have h' := h.symm
        subst h'
        go_wp2_with fail
        refine HA.out.mono ?_
        rintro e w2 ⟨rfl, h⟩
        have h' := h.symm
        subst h'
        go_wp2_with fail
        go_ret
        exact ⟨by simp [h3], rfl⟩
      · have h3' : (256 : Int) ≤ (l.length : Int) := by omega
        go_enter Try.func48, Try.ntmps48
        go_wp2_with fail
        refine HN.out.mono ?_
        rintro e w1 ⟨rfl, h⟩
        have h' := h.symm
        subst h'
        go_wp2_with fail
        refine HA.out.mono ?_
        rintro e w2 ⟨rfl, h⟩
        have h' := h.symm
        subst h'
        go_wp2_with fail
        go_ret
        exact ⟨by simp [h3, hno], rfl⟩
    | some i =>
      rw [idxI_yes hi] at HA
      obtain ⟨x, _, _, hx, _⟩ := idx_yes hi
      have hi0 : ¬ (i : Int) < 0 := by omega
      go_enter Try.func48, Try.ntmps48
      go_wp2_with fail
      refine HN.out.mono ?_
      rintro e w1 ⟨rfl, h⟩
      have h' := h.symm
      subst h'
      go_wp2_with fail
      refine HA.out.mono ?_
      rintro e w2 ⟨rfl, h⟩
      have h' := h.symm
      subst h'
      go_wp2_with fail
      go_ret
      exact ⟨by simp [hx], rfl⟩

theorem look_bytes {l : List AF} {n : List UInt8} {x : AF} (h : alook l n = some x) : abytes l n = x.bs ∧ asafe l n = x.safe := by
  unfold abytes asafe
  rw [h]
  exact ⟨rfl, rfl⟩
theorem look_none {l : List AF} {n : List UInt8} (h : alook l n = none) : abytes l n = [] ∧ asafe l n = 0 := by
  unfold abytes asafe
  rw [h]
  exact ⟨rfl, rfl⟩
/-- The row's address, and what lies at a name's place. -/
theorem RefM.place {w : World} {T : Nat → Prop} {r size : Nat} {v : Value} {l : List AF} (h : RefM w T r size v l) {i : Nat} {x : AF} (hx : l[i]? = some x) : ∃ g cap, v = .slice (some ⟨g, 0, none⟩) l.length cap ∧ l.length ≤ cap ∧ cap ≤ maxLen := by
  obtain ⟨oa, cap, rfl, hcap, hcm, hoa, _⟩ := h.shape
  obtain ⟨g, rfl⟩ := hoa (by have := (List.getElem?_eq_some_iff.1 hx).1; omega)
  exact ⟨g, cap, rfl, hcap, hcm⟩

set_option maxHeartbeats 1600000 in
theorem rread_any {w : World} {T : Nat → Prop} {r size : Nat} {v : Value} {l : List AF} (h : RefM w T r size v l) (hl : l.length ≤ 256) (n : ByteArray) :
    Calls Try.prog 37 #[.pointer (some ⟨r, 0, none⟩), .string n] w fun e w' => e = .returned (.tuple #[.string (strOf (abytes l n.data.toList)), .int .i64 (synE l n : Int)]) ∧ w' = w := by
  have HA := hid (at_any h (by omega) n)
  unfold synE
  cases hi : idx l n.data.toList with
  | none =>
    rw [idxI_no hi] at HA
    have hno := (idx_no hi).1
    rw [(look_none hno).1, hno]
    clear h hno
    go_enter Try.func37, Try.ntmps37
    go_wp2_with fail
    refine HA.out.mono ?_
    rintro e w2 ⟨rfl, h⟩
    have h' := h.symm
    subst h'
    go_wp2_with fail
    go_ret2
    exact ⟨rfl, rfl⟩
  | some i =>
    rw [idxI_yes hi] at HA
    obtain ⟨x, hx, _, hlk, hil⟩ := idx_yes hi
    rw [(look_bytes hlk).1, hlk]
    obtain ⟨g, cap, rfl, hcap, hcm⟩ := h.place hx
    have c1 := h.c1
    have p1 := (h.at_ i x hx).2.1
    have hi0 : ¬ (i : Int) < 0 := by omega
    have hil' : (i : Int) < (l.length : Int) := by omega
    clear h
    go_enter Try.func37, Try.ntmps37
    go_wp2_with fail
    refine HA.out.mono ?_
    rintro e w2 ⟨rfl, h⟩
    have h' := h.symm
    subst h'
    go_wp2_with fail
    go_ret2
    exact ⟨rfl, rfl⟩

set_option maxHeartbeats 1600000 in
theorem rsize_any {w : World} {T : Nat → Prop} {r size : Nat} {v : Value} {l : List AF} (h : RefM w T r size v l) (hl : l.length ≤ 256) (n : ByteArray) :
    Calls Try.prog 38 #[.pointer (some ⟨r, 0, none⟩), .string n] w fun e w' => e = .returned (.int .i64 ((abytes l n.data.toList).length : Int)) ∧ w' = w := by
  have HA := hid (rread_any h hl n)
  have hsz : (strOf (abytes l n.data.toList)).size = (abytes l n.data.toList).length := by simp [strOf, ByteArray.size]
  generalize abytes l n.data.toList = B at *
  clear h
  go_enter Try.func38, Try.ntmps38
  go_wp2_with fail
  refine HA.out.mono ?_
  rintro e w2 ⟨rfl, h⟩
  have h' := h.symm
  subst h'
  go_wp2_with fail
  go_ret
  exact ⟨rfl, rfl⟩

set_option maxHeartbeats 1600000 in
theorem rsynced_any {w : World} {T : Nat → Prop} {r size : Nat} {v : Value} {l : List AF} (h : RefM w T r size v l) (hl : l.length ≤ 256) (n : ByteArray) :
    Calls Try.prog 39 #[.pointer (some ⟨r, 0, none⟩), .string n] w fun e w' => e = .returned (.int .i64 (asafe l n.data.toList : Int)) ∧ w' = w := by
  have HA := hid (at_any h (by omega) n)
  cases hi : idx l n.data.toList with
  | none =>
    rw [idxI_no hi] at HA
    rw [(look_none (idx_no hi).1).2]
    clear h
    go_enter Try.func39, Try.ntmps39
    go_wp2_with fail
    refine HA.out.mono ?_
    rintro e w2 ⟨rfl, h⟩
    have h' := h.symm
    subst h'
    go_wp2_with fail
    go_ret
    exact ⟨rfl, rfl⟩
  | some i =>
    rw [idxI_yes hi] at HA
    obtain ⟨x, hx, _, hlk, hil⟩ := idx_yes hi
    rw [(look_bytes hlk).2]
    obtain ⟨g, cap, rfl, hcap, hcm⟩ := h.place hx
    have c1 := h.c1
    have p1 := (h.at_ i x hx).2.2
    have hi0 : ¬ (i : Int) < 0 := by omega
    have hil' : (i : Int) < (l.length : Int) := by omega
    clear h
    go_enter Try.func39, Try.ntmps39
    go_wp2_with fail
    refine HA.out.mono ?_
    rintro e w2 ⟨rfl, h⟩
    have h' := h.symm
    subst h'
    go_wp2_with fail
    go_ret
    exact ⟨rfl, rfl⟩
end Go.Proofs.Ytpdghpmfacaglaa
