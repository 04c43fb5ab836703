/- DiskWhole, the walk: it answers true and turns nothing that was there. -/
import Derived.Test.YtpdghpmfacaglaaShown
namespace Go.Proofs.Ytpdghpmfacaglaa
open Go.RowKit Go.Maps Go.Sort
set_option maxRecDepth 100000
set_option linter.unusedSimpArgs false
set_option linter.unusedVariables false

/-- No file, or one file a whose bytes are all safe. -/
def st : Option ByteArray → List AF
  | none => []
  | some b => [⟨[97], b.data.toList, b.size⟩]

theorem strOf_toList (b : ByteArray) : strOf b.data.toList = b := by
  cases b
  simp [strOf]

theorem crash_st (ks : List Int) (o : Option ByteArray) : crashL ks 0 (st o).length (st o) = st o := by
  cases o with
  | none => rfl
  | some b =>
    have e : b.data.toList.length = b.size := rfl
    simp [st, crashL, e]

theorem adm_st (o : Option ByteArray) : admE (st o) { data := #[97] } = 0 := by cases o <;> rfl
theorem bytes_st (o : Option ByteArray) : (abytes (st o) (ByteArray.mk #[97]).data.toList).length = totalA (st o) := by
  cases o with
  | none => rfl
  | some b => show b.data.toList.length = b.data.toList.length + 0; omega
theorem put_st (o : Option ByteArray) (b : ByteArray) : aput (st o) ⟨[97], b.data.toList, b.size⟩ = st (some b) := by cases o <;> rfl

theorem wR {w : World} {S : Nat → Prop} {a n : Nat} {o : Option ByteArray} (h : DiskA w S a n (st o)) (b : ByteArray) (hb : b.size ≤ maxLen) (hn : b.size ≤ n) : Calls Try.prog 22 #[.pointer (some ⟨a, 0, none⟩), .string { data := #[97] }, .string b] w fun e w' => e = .returned (.int .i64 0) ∧ AfterA S w w' a n (st (some b)) := by
  have ht := h.facts.1
  have h0 := adm_st o
  have h1 := bytes_st o
  refine (replaceA h { data := #[97] } b (by decide) hb).mono (fun e w' ⟨he, hA⟩ => ⟨?_, ?_⟩)
  · rw [he]; unfold repE; rw [if_pos h0, if_pos (by omega)]; rfl
  · unfold repL at hA
    rw [if_pos ⟨h0, by omega⟩, show (ByteArray.mk #[97]).data.toList = [97] from rfl, put_st] at hA
    exact hA

theorem wRn {w : World} {S : Nat → Prop} {a n : Nat} {o : Option ByteArray} (h : DiskA w S a n (st o)) (b : ByteArray) (hb : b.size ≤ maxLen) (hn : n < b.size) : Calls Try.prog 22 #[.pointer (some ⟨a, 0, none⟩), .string { data := #[97] }, .string b] w fun e w' => e = .returned (.int .i64 7) ∧ AfterA S w w' a n (st o) := by
  have ht := h.facts.1
  have h0 := adm_st o
  have h1 := bytes_st o
  refine (replaceA h { data := #[97] } b (by decide) hb).mono (fun e w' ⟨he, hA⟩ => ⟨?_, ?_⟩)
  · rw [he]; unfold repE; rw [if_pos h0, if_neg (by omega)]; rfl
  · unfold repL at hA
    rw [if_neg (by omega)] at hA
    exact hA

theorem wC {B : Nat} {w0 w : World} {S : Nat → Prop} {a n : Nat} {o : Option ByteArray} (h : On B w0 w a n (st o) S) (oa : Option Addr) (ks : List Int) (cap : Nat) (hk : IntsAt w0 oa ks) (hlen : ks.length ≤ maxLen) (hB : ks ≠ [] → ∀ b off, oa = some ⟨b, off, none⟩ → b < B) :
    Calls Try.prog 16 #[.pointer (some ⟨a, 0, none⟩), .slice oa ks.length cap] w fun e w' => e = .returned (.tuple #[]) ∧ AfterA S w w' a n (st o) := by
  have hk' : IntsAt w oa ks := by
    by_cases hks : ks = []
    · exact .inl hks
    · exact hk.kept (fun b off e => h.2.2.1.block b (hB hks b off e))
  have := crashA h.1 oa ks cap hk' hlen (fun hks b off e hS => by have := h.2.1 b hS; have := hB hks b off e; omega)
  rw [crash_st] at this
  exact this

theorem wDs {w : World} {S : Nat → Prop} {a n : Nat} {b : ByteArray} (h : DiskA w S a n (st (some b))) : Calls Try.prog 19 #[.pointer (some ⟨a, 0, none⟩), .string { data := #[97] }] w fun e w' => e = .returned (.tuple #[.string b, .int .i64 0]) ∧ Below w.heap.size w w' := by
  have := readA h { data := #[97] } (by decide)
  rw [show abytes (st (some b)) (ByteArray.mk #[97]).data.toList = b.data.toList from rfl, strOf_toList, show synE (st (some b)) { data := #[97] } = 0 from rfl] at this
  exact this

theorem wDn {w : World} {S : Nat → Prop} {a n : Nat} (h : DiskA w S a n (st none)) : Calls Try.prog 19 #[.pointer (some ⟨a, 0, none⟩), .string { data := #[97] }] w fun e w' => e = .returned (.tuple #[.string { data := #[] }, .int .i64 8]) ∧ Below w.heap.size w w' :=
  readA h { data := #[97] } (by decide)

theorem wN {w : World} {S : Nat → Prop} {a n : Nat} (h : DiskA w S a n (st none)) : Calls Try.prog 23 #[.pointer (some ⟨a, 0, none⟩)] w fun e w' => ∃ oa cap, e = .returned (.slice oa 0 cap) ∧ Below w.heap.size w w' :=
  (namesA h).mono (fun e w' ⟨oa, cap, he, _, hb⟩ => ⟨oa, cap, he, hb⟩)

set_option maxHeartbeats 3200000 in
theorem whole_yy (w : World) (c : Int) (fst thn : ByteArray) (oa : Option Addr) (ks : List Int) (cap : Nat) (hc1 : -9223372036854775808 ≤ c) (hc2 : c ≤ 9223372036854775807) (hf : fst.size ≤ maxLen) (ht : thn.size ≤ maxLen)
    (hk : Hid (IntsAt w oa ks)) (hlen : Hid (ks.length ≤ maxLen)) (hB : Hid (ks ≠ [] → ∀ b off, oa = some ⟨b, off, none⟩ → b < w.heap.size)) (r : Int) (n : Nat) (hr : Hid (1 + r = (n : Int))) (hr0 : 0 ≤ r) (hr1 : r < 3000) (h1 : fst.size ≤ n) (h2 : thn.size ≤ n)
    (hpick : Hid (∀ W, Calls Try.prog 17 #[.int .i64 c, .int .i64 3000] W fun e w' => e = .returned (.int .i64 r) ∧ w' = W)) :
    Calls Try.prog 5 #[.int .i64 c, .string fst, .string thn, .slice oa ks.length cap] w fun e w' => e = .returned (.bool true) ∧ Below w.heap.size w w' := by
  have hf' : fst.size ≤ 9223372036854775807 := by unfold maxLen at hf; omega
  have ht' : thn.size ≤ 9223372036854775807 := by unfold maxLen at ht; omega
  have hn1 : 1 ≤ n := by have := hr.out; omega
  have hn2 : n ≤ 3000 := by have := hr.out; omega
  have hrn : 1 + r = (n : Int) := hr.out
  have t1 : decide ((fst.size : Int) ≤ (n : Int)) = true := by simp; omega
  have t2 : decide ((thn.size : Int) ≤ (n : Int)) = true := by simp; omega
  have hS := shown_any w
  have HSh : Hid (Calls Try.prog 9 #[] w fun e w' => e = .returned (.bool true) ∧ Below w.heap.size w w') := hS
  clear hS
  go_enter Try.func5, Try.ntmps5
  go_wp2_with (go_at_call 9; refine HSh.out.mono ?_; rintro e w1 ⟨rfl, hb1⟩)
  go_wp2_with (go_at_call 17; refine (hpick.out _).mono ?_; rintro e w2 ⟨rfl, rfl⟩)
  go_wp2_with (go_at_call 10; refine (sh0 n _ hn1 (by omega) w.heap.size w hb1 hb1.size _ rfl).mono ?_; rintro e w3 ⟨rfl, hd3, -⟩)
  go_wp2_with (go_at_call 22; refine (wR (o := none) hd3.1 fst hf h1).mono ?_; rintro e w4 ⟨rfl, hA⟩; obtain ⟨S4, hd4, -, -⟩ := hd3.step hA; clear hA hd3)
  go_wp2_with (go_at_call 16; refine (wC hd4 oa ks cap hk.out hlen.out hB.out).mono ?_; rintro e w5 ⟨rfl, hA⟩; obtain ⟨S5, hd5, -, -⟩ := hd4.step hA; clear hA hd4)
  go_wp2_with (go_at_call 19; refine (wDs hd5.1).mono ?_; rintro e w6 ⟨rfl, hb6⟩; have hd6 := hd5.under hb6; clear hb6 hd5)
  go_wp2_with (go_at_call 22; refine (wR (o := some fst) hd6.1 thn ht h2).mono ?_; rintro e w7 ⟨rfl, hA⟩; obtain ⟨S7, hd7, -, -⟩ := hd6.step hA; clear hA hd6)
  go_wp2_with (go_at_call 16; refine (wC hd7 oa ks cap hk.out hlen.out hB.out).mono ?_; rintro e w8 ⟨rfl, hA⟩; obtain ⟨S8, hd8, -, -⟩ := hd7.step hA; clear hA hd7)
  go_wp2_with (go_at_call 19; refine (wDs hd8.1).mono ?_; rintro e w9 ⟨rfl, hb9⟩; have hd9 := hd8.under hb9; clear hb9 hd8)
  go_ret
  exact ⟨rfl, hd9.2.2.1⟩

set_option maxHeartbeats 3200000 in
theorem whole_yn (w : World) (c : Int) (fst thn : ByteArray) (oa : Option Addr) (ks : List Int) (cap : Nat) (hc1 : -9223372036854775808 ≤ c) (hc2 : c ≤ 9223372036854775807) (hf : fst.size ≤ maxLen) (ht : thn.size ≤ maxLen)
    (hk : Hid (IntsAt w oa ks)) (hlen : Hid (ks.length ≤ maxLen)) (hB : Hid (ks ≠ [] → ∀ b off, oa = some ⟨b, off, none⟩ → b < w.heap.size)) (r : Int) (n : Nat) (hr : Hid (1 + r = (n : Int))) (hr0 : 0 ≤ r) (hr1 : r < 3000) (h1 : fst.size ≤ n) (h2 : n < thn.size)
    (hpick : Hid (∀ W, Calls Try.prog 17 #[.int .i64 c, .int .i64 3000] W fun e w' => e = .returned (.int .i64 r) ∧ w' = W)) :
    Calls Try.prog 5 #[.int .i64 c, .string fst, .string thn, .slice oa ks.length cap] w fun e w' => e = .returned (.bool true) ∧ Below w.heap.size w w' := by
  have hf' : fst.size ≤ 9223372036854775807 := by unfold maxLen at hf; omega
  have ht' : thn.size ≤ 9223372036854775807 := by unfold maxLen at ht; omega
  have hn1 : 1 ≤ n := by have := hr.out; omega
  have hn2 : n ≤ 3000 := by have := hr.out; omega
  have hrn : 1 + r = (n : Int) := hr.out
  have t1 : decide ((fst.size : Int) ≤ (n : Int)) = true := by simp; omega
  have t2 : decide ((thn.size : Int) ≤ (n : Int)) = false := by simp; omega
  have hS := shown_any w
  have HSh : Hid (Calls Try.prog 9 #[] w fun e w' => e = .returned (.bool true) ∧ Below w.heap.size w w') := hS
  clear hS
  go_enter Try.func5, Try.ntmps5
  go_wp2_with (go_at_call 9; refine HSh.out.mono ?_; rintro e w1 ⟨rfl, hb1⟩)
  go_wp2_with (go_at_call 17; refine (hpick.out _).mono ?_; rintro e w2 ⟨rfl, rfl⟩)
  go_wp2_with (go_at_call 10; refine (sh0 n _ hn1 (by omega) w.heap.size w hb1 hb1.size _ rfl).mono ?_; rintro e w3 ⟨rfl, hd3, -⟩)
  go_wp2_with (go_at_call 22; refine (wR (o := none) hd3.1 fst hf h1).mono ?_; rintro e w4 ⟨rfl, hA⟩; obtain ⟨S4, hd4, -, -⟩ := hd3.step hA; clear hA hd3)
  go_wp2_with (go_at_call 16; refine (wC hd4 oa ks cap hk.out hlen.out hB.out).mono ?_; rintro e w5 ⟨rfl, hA⟩; obtain ⟨S5, hd5, -, -⟩ := hd4.step hA; clear hA hd4)
  go_wp2_with (go_at_call 19; refine (wDs hd5.1).mono ?_; rintro e w6 ⟨rfl, hb6⟩; have hd6 := hd5.under hb6; clear hb6 hd5)
  go_wp2_with (go_at_call 22; refine (wRn (o := some fst) hd6.1 thn ht h2).mono ?_; rintro e w7 ⟨rfl, hA⟩; obtain ⟨S7, hd7, -, -⟩ := hd6.step hA; clear hA hd6)
  go_wp2_with (go_at_call 16; refine (wC hd7 oa ks cap hk.out hlen.out hB.out).mono ?_; rintro e w8 ⟨rfl, hA⟩; obtain ⟨S8, hd8, -, -⟩ := hd7.step hA; clear hA hd7)
  go_wp2_with (go_at_call 19; refine (wDs hd8.1).mono ?_; rintro e w9 ⟨rfl, hb9⟩; have hd9 := hd8.under hb9; clear hb9 hd8)
  go_ret
  exact ⟨rfl, hd9.2.2.1⟩

set_option maxHeartbeats 3200000 in
theorem whole_ny (w : World) (c : Int) (fst thn : ByteArray) (oa : Option Addr) (ks : List Int) (cap : Nat) (hc1 : -9223372036854775808 ≤ c) (hc2 : c ≤ 9223372036854775807) (hf : fst.size ≤ maxLen) (ht : thn.size ≤ maxLen)
    (hk : Hid (IntsAt w oa ks)) (hlen : Hid (ks.length ≤ maxLen)) (hB : Hid (ks ≠ [] → ∀ b off, oa = some ⟨b, off, none⟩ → b < w.heap.size)) (r : Int) (n : Nat) (hr : Hid (1 + r = (n : Int))) (hr0 : 0 ≤ r) (hr1 : r < 3000) (h1 : n < fst.size) (h2 : thn.size ≤ n)
    (hpick : Hid (∀ W, Calls Try.prog 17 #[.int .i64 c, .int .i64 3000] W fun e w' => e = .returned (.int .i64 r) ∧ w' = W)) :
    Calls Try.prog 5 #[.int .i64 c, .string fst, .string thn, .slice oa ks.length cap] w fun e w' => e = .returned (.bool true) ∧ Below w.heap.size w w' := by
  have hf' : fst.size ≤ 9223372036854775807 := by unfold maxLen at hf; omega
  have ht' : thn.size ≤ 9223372036854775807 := by unfold maxLen at ht; omega
  have hn1 : 1 ≤ n := by have := hr.out; omega
  have hn2 : n ≤ 3000 := by have := hr.out; omega
  have hrn : 1 + r = (n : Int) := hr.out
  have t1 : decide ((fst.size : Int) ≤ (n : Int)) = false := by simp; omega
  have t2 : decide ((thn.size : Int) ≤ (n : Int)) = true := by simp; omega
  have hS := shown_any w
  have HSh : Hid (Calls Try.prog 9 #[] w fun e w' => e = .returned (.bool true) ∧ Below w.heap.size w w') := hS
  clear hS
  go_enter Try.func5, Try.ntmps5
  go_wp2_with (go_at_call 9; refine HSh.out.mono ?_; rintro e w1 ⟨rfl, hb1⟩)
  go_wp2_with (go_at_call 17; refine (hpick.out _).mono ?_; rintro e w2 ⟨rfl, rfl⟩)
  go_wp2_with (go_at_call 10; refine (sh0 n _ hn1 (by omega) w.heap.size w hb1 hb1.size _ rfl).mono ?_; rintro e w3 ⟨rfl, hd3, -⟩)
  go_wp2_with (go_at_call 22; refine (wRn (o := none) hd3.1 fst hf h1).mono ?_; rintro e w4 ⟨rfl, hA⟩; obtain ⟨S4, hd4, -, -⟩ := hd3.step hA; clear hA hd3)
  go_wp2_with (go_at_call 16; refine (wC hd4 oa ks cap hk.out hlen.out hB.out).mono ?_; rintro e w5 ⟨rfl, hA⟩; obtain ⟨S5, hd5, -, -⟩ := hd4.step hA; clear hA hd4)
  go_wp2_with (go_at_call 19; refine (wDn hd5.1).mono ?_; rintro e w6 ⟨rfl, hb6⟩; have hd6 := hd5.under hb6; clear hb6 hd5)
  go_wp2_with (go_at_call 23; refine (wN hd6.1).mono ?_; rintro e w6b ⟨oab, capb, rfl, hb6⟩; have hd6b := hd6.under hb6; clear hb6 hd6)
  go_wp2_with (go_at_call 22; refine (wR (o := none) hd6b.1 thn ht h2).mono ?_; rintro e w7 ⟨rfl, hA⟩; obtain ⟨S7, hd7, -, -⟩ := hd6b.step hA; clear hA hd6b)
  go_wp2_with (go_at_call 16; refine (wC hd7 oa ks cap hk.out hlen.out hB.out).mono ?_; rintro e w8 ⟨rfl, hA⟩; obtain ⟨S8, hd8, -, -⟩ := hd7.step hA; clear hA hd7)
  go_wp2_with (go_at_call 19; refine (wDs hd8.1).mono ?_; rintro e w9 ⟨rfl, hb9⟩; have hd9 := hd8.under hb9; clear hb9 hd8)
  go_ret
  exact ⟨rfl, hd9.2.2.1⟩

set_option maxHeartbeats 3200000 in
theorem whole_nn (w : World) (c : Int) (fst thn : ByteArray) (oa : Option Addr) (ks : List Int) (cap : Nat) (hc1 : -9223372036854775808 ≤ c) (hc2 : c ≤ 9223372036854775807) (hf : fst.size ≤ maxLen) (ht : thn.size ≤ maxLen)
    (hk : Hid (IntsAt w oa ks)) (hlen : Hid (ks.length ≤ maxLen)) (hB : Hid (ks ≠ [] → ∀ b off, oa = some ⟨b, off, none⟩ → b < w.heap.size)) (r : Int) (n : Nat) (hr : Hid (1 + r = (n : Int))) (hr0 : 0 ≤ r) (hr1 : r < 3000) (h1 : n < fst.size) (h2 : n < thn.size)
    (hpick : Hid (∀ W, Calls Try.prog 17 #[.int .i64 c, .int .i64 3000] W fun e w' => e = .returned (.int .i64 r) ∧ w' = W)) :
    Calls Try.prog 5 #[.int .i64 c, .string fst, .string thn, .slice oa ks.length cap] w fun e w' => e = .returned (.bool true) ∧ Below w.heap.size w w' := by
  have hf' : fst.size ≤ 9223372036854775807 := by unfold maxLen at hf; omega
  have ht' : thn.size ≤ 9223372036854775807 := by unfold maxLen at ht; omega
  have hn1 : 1 ≤ n := by have := hr.out; omega
  have hn2 : n ≤ 3000 := by have := hr.out; omega
  have hrn : 1 + r = (n : Int) := hr.out
  have t1 : decide ((fst.size : Int) ≤ (n : Int)) = false := by simp; omega
  have t2 : decide ((thn.size : Int) ≤ (n : Int)) = false := by simp; omega
  have hS := shown_any w
  have HSh : Hid (Calls Try.prog 9 #[] w fun e w' => e = .returned (.bool true) ∧ Below w.heap.size w w') := hS
  clear hS
  go_enter Try.func5, Try.ntmps5
  go_wp2_with (go_at_call 9; refine HSh.out.mono ?_; rintro e w1 ⟨rfl, hb1⟩)
  go_wp2_with (go_at_call 17; refine (hpick.out _).mono ?_; rintro e w2 ⟨rfl, rfl⟩)
  go_wp2_with (go_at_call 10; refine (sh0 n _ hn1 (by omega) w.heap.size w hb1 hb1.size _ rfl).mono ?_; rintro e w3 ⟨rfl, hd3, -⟩)
  go_wp2_with (go_at_call 22; refine (wRn (o := none) hd3.1 fst hf h1).mono ?_; rintro e w4 ⟨rfl, hA⟩; obtain ⟨S4, hd4, -, -⟩ := hd3.step hA; clear hA hd3)
  go_wp2_with (go_at_call 16; refine (wC hd4 oa ks cap hk.out hlen.out hB.out).mono ?_; rintro e w5 ⟨rfl, hA⟩; obtain ⟨S5, hd5, -, -⟩ := hd4.step hA; clear hA hd4)
  go_wp2_with (go_at_call 19; refine (wDn hd5.1).mono ?_; rintro e w6 ⟨rfl, hb6⟩; have hd6 := hd5.under hb6; clear hb6 hd5)
  go_wp2_with (go_at_call 23; refine (wN hd6.1).mono ?_; rintro e w6b ⟨oab, capb, rfl, hb6⟩; have hd6b := hd6.under hb6; clear hb6 hd6)
  go_wp2_with (go_at_call 22; refine (wRn (o := none) hd6b.1 thn ht h2).mono ?_; rintro e w7 ⟨rfl, hA⟩; obtain ⟨S7, hd7, -, -⟩ := hd6b.step hA; clear hA hd6b)
  go_wp2_with (go_at_call 16; refine (wC hd7 oa ks cap hk.out hlen.out hB.out).mono ?_; rintro e w8 ⟨rfl, hA⟩; obtain ⟨S8, hd8, -, -⟩ := hd7.step hA; clear hA hd7)
  go_wp2_with (go_at_call 19; refine (wDn hd8.1).mono ?_; rintro e w9 ⟨rfl, hb9⟩; have hd9 := hd8.under hb9; clear hb9 hd8)
  go_ret
  exact ⟨rfl, hd9.2.2.1⟩

end Go.Proofs.Ytpdghpmfacaglaa
