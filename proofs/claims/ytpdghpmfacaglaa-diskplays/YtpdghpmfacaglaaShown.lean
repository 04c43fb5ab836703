/- The chapter's examples: shown answers true, and turns nothing that was there. -/
import Derived.Test.YtpdghpmfacaglaaOps
namespace Go.Proofs.Ytpdghpmfacaglaa
open Go.RowKit Go.Maps Go.Sort
set_option maxRecDepth 100000
set_option linter.unusedSimpArgs false
set_option linter.unusedVariables false

/-- A disk on the way: its blocks lie from B on, nothing below B has turned. -/
def On (B : Nat) (w0 w : World) (a size : Nat) (l : List AF) (S : Nat → Prop) : Prop := DiskA w S a size l ∧ (∀ k, S k → B ≤ k) ∧ Below B w0 w ∧ B ≤ w.heap.size

theorem On.step {B : Nat} {w0 w w' : World} {a size : Nat} {l l' : List AF} {S : Nat → Prop} (h : On B w0 w a size l S) (hA : AfterA S w w' a size l') : ∃ S', On B w0 w' a size l' S' ∧ (∀ k, S' k → S k ∨ w.heap.size ≤ k) ∧ Keeps S w w' := by
  obtain ⟨h1, h2, h3, h4⟩ := h
  obtain ⟨S', hd, g1, g2, g3⟩ := hA
  refine ⟨S', ⟨hd, fun k hk => ?_, h3.trans (g3.below h4 h2), Nat.le_trans h4 g3.size⟩, g1, g3⟩
  rcases g1 k hk with h | h
  · exact h2 k h
  · omega

theorem On.under {B : Nat} {w0 w w' : World} {a size : Nat} {l : List AF} {S : Nat → Prop} (h : On B w0 w a size l S) (hb : Below w.heap.size w w') : On B w0 w' a size l S := by
  obtain ⟨h1, h2, h3, h4⟩ := h
  exact ⟨h1.under hb, h2, h3.trans (hb.mono h4), Nat.le_trans h4 hb.size⟩

def nA : ByteArray := ⟨#[97]⟩
def hello : ByteArray := ⟨#[104, 101, 108, 108, 111]⟩

theorem sh1 {w : World} {S : Nat → Prop} {a : Nat} (h : DiskA w S a 10 []) : Calls Try.prog 15 #[.pointer (some ⟨a, 0, none⟩), .string { data := #[97] }, .string { data := #[104, 101, 108, 108, 111] }] w fun e w' => e = .returned (.int .i64 0) ∧ AfterA S w w' a 10 [⟨[97], [104, 101, 108, 108, 111], 0⟩] := by
  have := appendA h { data := #[97] } { data := #[104, 101, 108, 108, 111] } (by decide) (by decide)
  rw [show appE 10 [] { data := #[97] } { data := #[104, 101, 108, 108, 111] } = 0 from by decide, show appL 10 [] { data := #[97] } { data := #[104, 101, 108, 108, 111] } = [⟨[97], [104, 101, 108, 108, 111], 0⟩] from by rfl] at this
  exact this

theorem sh2 {w : World} {S : Nat → Prop} {a : Nat} (h : DiskA w S a 10 [⟨[97], [104, 101, 108, 108, 111], 0⟩]) : Calls Try.prog 18 #[.pointer (some ⟨a, 0, none⟩), .string { data := #[97] }] w fun e w' => e = .returned (.int .i64 0) ∧ AfterA S w w' a 10 [⟨[97], [104, 101, 108, 108, 111], 5⟩] := by
  have := syncA h { data := #[97] } (by decide)
  rw [show synE [⟨[97], [104, 101, 108, 108, 111], 0⟩] { data := #[97] } = 0 from by rfl, show synL [⟨[97], [104, 101, 108, 108, 111], 0⟩] { data := #[97] } = [⟨[97], [104, 101, 108, 108, 111], 5⟩] from by rfl] at this
  exact this

theorem sh3 {w : World} {S : Nat → Prop} {a : Nat} (h : DiskA w S a 10 [⟨[97], [104, 101, 108, 108, 111], 5⟩]) : Calls Try.prog 15 #[.pointer (some ⟨a, 0, none⟩), .string { data := #[97] }, .string { data := #[49, 50] }] w fun e w' => e = .returned (.int .i64 0) ∧ AfterA S w w' a 10 [⟨[97], [104, 101, 108, 108, 111, 49, 50], 5⟩] := by
  have := appendA h { data := #[97] } { data := #[49, 50] } (by decide) (by decide)
  rw [show appE 10 [⟨[97], [104, 101, 108, 108, 111], 5⟩] { data := #[97] } { data := #[49, 50] } = 0 from by rfl, show appL 10 [⟨[97], [104, 101, 108, 108, 111], 5⟩] { data := #[97] } { data := #[49, 50] } = [⟨[97], [104, 101, 108, 108, 111, 49, 50], 5⟩] from by rfl] at this
  exact this

theorem sh4 {w : World} {S : Nat → Prop} {a : Nat} (h : DiskA w S a 10 [⟨[97], [104, 101, 108, 108, 111, 49, 50], 5⟩]) : Calls Try.prog 16 #[.pointer (some ⟨a, 0, none⟩), .slice none 0 0] w fun e w' => e = .returned (.tuple #[]) ∧ AfterA S w w' a 10 [⟨[97], [104, 101, 108, 108, 111], 5⟩] := by
  have := crashA h none [] 0 (.inl rfl) (by decide) (fun h => absurd rfl h)
  rw [show crashL [] 0 [(⟨[97], [104, 101, 108, 108, 111, 49, 50], 5⟩ : AF)].length [⟨[97], [104, 101, 108, 108, 111, 49, 50], 5⟩] = [⟨[97], [104, 101, 108, 108, 111], 5⟩] from by rfl] at this
  exact this

theorem sh5 {w : World} {S : Nat → Prop} {a b : Nat} (h : DiskA w S a 10 [⟨[97], [104, 101, 108, 108, 111, 49, 50], 5⟩]) (hc : w.cell? ⟨b, 0, none⟩ = some (.int .i64 4)) (hb : ¬ S b) : Calls Try.prog 16 #[.pointer (some ⟨a, 0, none⟩), .slice (some ⟨b, 0, none⟩) 1 1] w fun e w' => e = .returned (.tuple #[]) ∧ AfterA S w w' a 10 [⟨[97], [104, 101, 108, 108, 111, 49], 6⟩] := by
  have := crashA h (some ⟨b, 0, none⟩) [4] 1 (.inr ⟨b, 0, rfl, fun j hj => by
    simp at hj
    subst hj
    exact ⟨hc, by show (-9223372036854775808 : Int) ≤ 4; decide, by show (4 : Int) ≤ 9223372036854775807; decide⟩⟩) (by decide) (fun _ b' off e => by cases e; exact hb)
  rw [show crashL [4] 0 [(⟨[97], [104, 101, 108, 108, 111, 49, 50], 5⟩ : AF)].length [⟨[97], [104, 101, 108, 108, 111, 49, 50], 5⟩] = [⟨[97], [104, 101, 108, 108, 111, 49], 6⟩] from by rfl] at this
  exact this

theorem sh6 {w : World} {S : Nat → Prop} {a : Nat} {bs : List UInt8} {s : Nat} (h : DiskA w S a 10 [⟨[97], bs, s⟩]) : Calls Try.prog 19 #[.pointer (some ⟨a, 0, none⟩), .string { data := #[97] }] w fun e w' => e = .returned (.tuple #[.string (strOf bs), .int .i64 0]) ∧ Below w.heap.size w w' := by
  have := readA h { data := #[97] } (by decide)
  rw [show abytes [⟨[97], bs, s⟩] (ByteArray.mk #[97]).data.toList = bs from by rfl, show synE [⟨[97], bs, s⟩] { data := #[97] } = 0 from by rfl] at this
  exact this

theorem sh6a {w : World} {S : Nat → Prop} {a : Nat} {s : Nat} (h : DiskA w S a 10 [⟨[97], [104, 101, 108, 108, 111], s⟩]) : Calls Try.prog 19 #[.pointer (some ⟨a, 0, none⟩), .string { data := #[97] }] w fun e w' => e = .returned (.tuple #[.string { data := #[104, 101, 108, 108, 111] }, .int .i64 0]) ∧ Below w.heap.size w w' := sh6 h
theorem sh6b {w : World} {S : Nat → Prop} {a : Nat} {s : Nat} (h : DiskA w S a 10 [⟨[97], [104, 101, 108, 108, 111, 49], s⟩]) : Calls Try.prog 19 #[.pointer (some ⟨a, 0, none⟩), .string { data := #[97] }] w fun e w' => e = .returned (.tuple #[.string { data := #[104, 101, 108, 108, 111, 49] }, .int .i64 0]) ∧ Below w.heap.size w w' := sh6 h

theorem sh7 {w : World} {S : Nat → Prop} {a : Nat} (h : DiskA w S a 3 []) : Calls Try.prog 15 #[.pointer (some ⟨a, 0, none⟩), .string { data := #[97] }, .string { data := #[104, 101, 108, 108, 111] }] w fun e w' => e = .returned (.int .i64 7) ∧ AfterA S w w' a 3 [⟨[97], [104, 101, 108], 0⟩] := by
  have := appendA h { data := #[97] } { data := #[104, 101, 108, 108, 111] } (by decide) (by decide)
  rw [show appE 3 [] { data := #[97] } { data := #[104, 101, 108, 108, 111] } = 7 from by decide, show appL 3 [] { data := #[97] } { data := #[104, 101, 108, 108, 111] } = [⟨[97], [104, 101, 108], 0⟩] from by rfl] at this
  exact this

theorem sh8 {w : World} {S : Nat → Prop} {a : Nat} (h : DiskA w S a 3 [⟨[97], [104, 101, 108], 0⟩]) : Calls Try.prog 25 #[.pointer (some ⟨a, 0, none⟩), .string { data := #[97] }] w fun e w' => e = .returned (.int .i64 3) ∧ w' = w := by
  have := sizeA h { data := #[97] } (by decide)
  rw [show abytes [⟨[97], [104, 101, 108], 0⟩] (ByteArray.mk #[97]).data.toList = [104, 101, 108] from by rfl] at this
  exact this

theorem sh9 {w : World} {S : Nat → Prop} {a : Nat} (h : DiskA w S a 3 [⟨[97], [104, 101, 108], 0⟩]) : Calls Try.prog 20 #[.pointer (some ⟨a, 0, none⟩), .string { data := #[97] }] w fun e w' => e = .returned (.int .i64 0) ∧ w' = w := by
  have := syncedA h { data := #[97] } (by decide)
  rw [show asafe [⟨[97], [104, 101, 108], 0⟩] (ByteArray.mk #[97]).data.toList = 0 from by rfl] at this
  exact this

theorem sh0 (n : Nat) (w : World) (h1 : 1 ≤ n) (h2 : n ≤ 16777216) (B : Nat) (w0 : World) (hb : Below B w0 w) (hB : B ≤ w.heap.size) (N : Int) (hN : N = n) :
    Calls Try.prog 10 #[.int .i64 N] w fun e w' => e = .returned (.tuple #[.pointer (some ⟨w.heap.size, 0, none⟩), .int .i64 0]) ∧ On B w0 w' w.heap.size n [] (fun k => k = w.heap.size) ∧ Below w.heap.size w w' := by
  subst hN
  exact (newA n w h1 h2).mono (fun e w' ⟨he, hd, hb'⟩ => ⟨he, ⟨hd, fun k hk => by omega, hb.trans (hb'.mono hB), Nat.le_trans hB hb'.size⟩, hb'⟩)

set_option maxHeartbeats 3200000 in
theorem shown_any (w : World) : Calls Try.prog 9 #[] w fun e w' => e = .returned (.bool true) ∧ Below w.heap.size w w' := by
  go_enter Try.func9, Try.ntmps9
  go_wp2_with (go_at_call 10; refine (sh0 10 _ (by decide) (by decide) w.heap.size w (Below.refl _ _) (Nat.le_refl _) _ rfl).mono ?_; rintro e w1 ⟨rfl, hd1, -⟩)
  go_wp2_with (go_at_call 15; refine (sh1 hd1.1).mono ?_; rintro e w2 ⟨rfl, hA⟩; obtain ⟨S2, hd2, -, -⟩ := hd1.step hA; clear hA hd1)
  go_wp2_with (go_at_call 18; refine (sh2 hd2.1).mono ?_; rintro e w3 ⟨rfl, hA⟩; obtain ⟨S3, hd3, -, -⟩ := hd2.step hA; clear hA hd2)
  go_wp2_with (go_at_call 15; refine (sh3 hd3.1).mono ?_; rintro e w4 ⟨rfl, hA⟩; obtain ⟨S4, hd4, -, -⟩ := hd3.step hA; clear hA hd3)
  go_wp2_with (go_at_call 14; refine (cloneA hd4.1).mono ?_; rintro e w5 ⟨rfl, Sc, hc5, hcS, hb5⟩)
  have hd5 := hd4.under hb5
  have hcon : On w.heap.size w w5 w4.heap.size 10 _ Sc := ⟨hc5, fun k hk => Nat.le_trans hd4.2.2.2 (hcS k hk), hd5.2.2.1, hd5.2.2.2⟩
  have hdis : ∀ k, Sc k → ¬ S4 k := fun k hk hs => by have := hd4.1.below k hs; have := hcS k hk; omega
  clear hcS hb5 hc5 hd4
  go_wp2_with (go_at_call_of 16 (Value.slice none 0 0); refine (sh4 hd5.1).mono ?_; rintro e w6 ⟨rfl, hA⟩; obtain ⟨S6, hd6, g1, g3⟩ := hd5.step hA; clear hA)
  have hc6 : On w.heap.size w w6 w4.heap.size 10 _ Sc := ⟨hcon.1.beside g3 hdis, hcon.2.1, hd6.2.2.1, hd6.2.2.2⟩
  have hdis6 : ∀ k, Sc k → ¬ S6 k := fun k hk hs => by
    rcases g1 k hs with h | h
    · exact hdis k hk h
    · have := hcon.1.below k hk; omega
  clear g1 g3 hcon hdis hd5
  have hcB : ∀ o, On w.heap.size w (w6.alloc o) w4.heap.size 10 _ Sc := fun o => hc6.under ((Below.refl _ _).alloc (Nat.le_refl _) _)
  have hdB : ∀ o, On w.heap.size w (w6.alloc o) w.heap.size 10 _ S6 := fun o => hd6.under ((Below.refl _ _).alloc (Nat.le_refl _) _)
  have hnb : ¬ Sc w6.heap.size := fun h => by have := hc6.1.below _ h; omega
  clear hc6 hd6
  go_wp2_with (go_at_call 16; refine (sh5 (hcB _).1 (by simp) hnb).mono ?_; rintro e w7 ⟨rfl, hA⟩; obtain ⟨S7, hc7, g1, g3⟩ := (hcB _).step hA; have hd7 : On w.heap.size w w7 w.heap.size 10 _ S6 := ⟨(hdB _).1.beside g3 (fun k hk hs => hdis6 k hs hk), (hdB (.map #[] 0)).2.1, hc7.2.2.1, hc7.2.2.2⟩; clear hA g1 g3)
  clear hcB hdB hnb hdis6
  go_wp2_with (go_at_call_of 19 (Value.pointer (some ⟨w.heap.size, 0, none⟩)); refine (sh6a hd7.1).mono ?_; rintro e w8 ⟨rfl, hb8⟩)
  have hc8 := hc7.under hb8
  clear hb8 hc7 hd7
  go_wp2_with (go_at_call 19; refine (sh6b hc8.1).mono ?_; rintro e w9 ⟨rfl, hb9⟩)
  have hc9 := hc8.under hb9
  clear hb9 hc8
  go_wp2_with (go_at_call 10; refine (sh0 3 _ (by decide) (by decide) w.heap.size w hc9.2.2.1 hc9.2.2.2 _ rfl).mono ?_; rintro e x1 ⟨rfl, hx1, -⟩)
  clear hc9
  go_wp2_with (go_at_call 15; refine (sh7 hx1.1).mono ?_; rintro e x2 ⟨rfl, hA⟩; obtain ⟨T2, hx2, -, -⟩ := hx1.step hA; clear hA hx1)
  go_wp2_with (go_at_call 25; refine (sh8 hx2.1).mono ?_; rintro e x3 ⟨rfl, rfl⟩)
  go_wp2_with (go_at_call 20; refine (sh9 hx2.1).mono ?_; rintro e x4 ⟨rfl, rfl⟩)
  go_ret
  exact ⟨rfl, hx2.2.2.1⟩
end Go.Proofs.Ytpdghpmfacaglaa
