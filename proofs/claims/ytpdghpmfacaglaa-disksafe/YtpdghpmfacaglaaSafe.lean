/- DiskSafe, the walk: it answers true and turns nothing that was there. -/
import Derived.Test.YtpdghpmfacaglaaShown
namespace Go.Proofs.Ytpdghpmfacaglaa
open Go.RowKit Go.Maps Go.Sort
set_option maxRecDepth 100000
set_option linter.unusedSimpArgs false
set_option linter.unusedVariables false

/-- The file log behind k appends. -/
def lg (k : Nat) (al : List UInt8) (sf : Nat) : List AF := if k = 0 then [] else [⟨[108, 111, 103], al, sf⟩]

theorem lg_zero (al : List UInt8) (sf : Nat) : lg 0 al sf = [] := rfl
theorem lg_succ (k : Nat) (al : List UInt8) (sf : Nat) : lg (k + 1) al sf = [⟨[108, 111, 103], al, sf⟩] := rfl

theorem strOf_append (al : List UInt8) (b : ByteArray) (m : Nat) : strOf al ++ b.extract 0 m = strOf (al ++ b.data.toList.take m) := by
  apply ByteArray.ext
  simp [strOf]

theorem lApp {w : World} {S : Nat → Prop} {a n k : Nat} {al : List UInt8} {sf : Nat} (h : DiskA w S a n (lg k al sf)) (h0 : k = 0 → al = [] ∧ sf = 0) (b : ByteArray) (hb : b.size ≤ maxLen) :
    Calls Try.prog 15 #[.pointer (some ⟨a, 0, none⟩), .string { data := #[108, 111, 103] }, .string b] w fun e w' => e = .returned (.int .i64 (if b.size ≤ n - al.length then 0 else 7)) ∧
      AfterA S w w' a n (lg (k + 1) (al ++ b.data.toList.take (min b.size (n - al.length))) sf) := by
  have e1 : admE (lg k al sf) { data := #[108, 111, 103] } = 0 ∧ totalA (lg k al sf) = al.length ∧ abytes (lg k al sf) [108, 111, 103] = al ∧ asafe (lg k al sf) [108, 111, 103] = sf ∧ ∀ x : AF, x.name = [108, 111, 103] → aput (lg k al sf) x = [x] := by
    cases k with
    | zero =>
      obtain ⟨rfl, rfl⟩ := h0 rfl
      exact ⟨rfl, rfl, rfl, rfl, fun x hx => rfl⟩
    | succ k =>
      refine ⟨rfl, by simp [lg_succ, totalA], rfl, rfl, fun x hx => ?_⟩
      have : (([108, 111, 103] : List UInt8) == [108, 111, 103]) = true := by decide
      simp [aput, adel, lg_succ, hx, ains]
  obtain ⟨e1, e2, e3, e4, e5⟩ := e1
  refine (appendA h { data := #[108, 111, 103] } b (by decide) hb).mono (fun e w' ⟨he, hA⟩ => ⟨?_, ?_⟩)
  · rw [he]; unfold appE; rw [if_pos e1, e2]; split <;> rfl
  · unfold appL at hA
    rw [if_pos e1, show (ByteArray.mk #[108, 111, 103]).data.toList = [108, 111, 103] from rfl, e3, e4, e2, e5 _ rfl] at hA
    exact hA

theorem lSync {w : World} {S : Nat → Prop} {a n k : Nat} {al : List UInt8} {sf : Nat} (h : DiskA w S a n (lg (k + 1) al sf)) :
    Calls Try.prog 18 #[.pointer (some ⟨a, 0, none⟩), .string { data := #[108, 111, 103] }] w fun e w' => e = .returned (.int .i64 0) ∧ AfterA S w w' a n (lg (k + 1) al al.length) :=
  syncA h { data := #[108, 111, 103] } (by decide)

theorem lCrash {B : Nat} {w0 w : World} {S : Nat → Prop} {a n k : Nat} {al : List UInt8} {sf : Nat} (h : On B w0 w a n (lg k al sf) S) (hsf : sf ≤ al.length) (oa : Option Addr) (ks : List Int) (cap : Nat) (hk : IntsAt w0 oa ks) (hlen : ks.length ≤ maxLen) (hB : ks ≠ [] → ∀ b off, oa = some ⟨b, off, none⟩ → b < B) :
    ∃ L, sf ≤ L ∧ L ≤ al.length ∧ Calls Try.prog 16 #[.pointer (some ⟨a, 0, none⟩), .slice oa ks.length cap] w fun e w' => e = .returned (.tuple #[]) ∧ AfterA S w w' a n (lg k (al.take L) L) := by
  have hk' : IntsAt w oa ks := by
    by_cases hks : ks = []
    · exact .inl hks
    · exact hk.kept (fun b off e => h.2.2.1.block b (hB hks b off e))
  have := crashA h.1 oa ks cap hk' hlen (fun hks b off e hS => by have := h.2.1 b hS; have := hB hks b off e; omega)
  cases k with
  | zero => exact ⟨sf, Nat.le_refl _, hsf, this⟩
  | succ k =>
    by_cases hc : al.length = sf
    · refine ⟨al.length, by omega, Nat.le_refl _, ?_⟩
      have e : crashL ks 0 (lg (k + 1) al sf).length (lg (k + 1) al sf) = lg (k + 1) (al.take al.length) al.length := by
        rw [List.take_length]; simp [lg_succ, crashL, hc]
      rw [e] at this
      exact this
    · have hle := keptN_le ks 0 (al.length - sf)
      refine ⟨sf + keptN ks 0 (al.length - sf), by omega, by omega, ?_⟩
      have e : crashL ks 0 (lg (k + 1) al sf).length (lg (k + 1) al sf) = lg (k + 1) (al.take (sf + keptN ks 0 (al.length - sf))) (sf + keptN ks 0 (al.length - sf)) := by
        simp [lg_succ, crashL, hc, crash1]
      rw [e] at this
      exact this

theorem lRead {w : World} {S : Nat → Prop} {a n k : Nat} {al : List UInt8} {sf : Nat} (h : DiskA w S a n (lg (k + 1) al sf)) :
    Calls Try.prog 19 #[.pointer (some ⟨a, 0, none⟩), .string { data := #[108, 111, 103] }] w fun e w' => e = .returned (.tuple #[.string (strOf al), .int .i64 0]) ∧ Below w.heap.size w w' :=
  readA h { data := #[108, 111, 103] } (by decide)
theorem lRead0 {w : World} {S : Nat → Prop} {a n : Nat} {al : List UInt8} {sf : Nat} (h : DiskA w S a n (lg 0 al sf)) :
    Calls Try.prog 19 #[.pointer (some ⟨a, 0, none⟩), .string { data := #[108, 111, 103] }] w fun e w' => e = .returned (.tuple #[.string (strOf []), .int .i64 8]) ∧ Below w.heap.size w w' :=
  readA h { data := #[108, 111, 103] } (by decide)
theorem lSynced {w : World} {S : Nat → Prop} {a n k : Nat} {al : List UInt8} {sf : Nat} (h : DiskA w S a n (lg (k + 1) al sf)) :
    Calls Try.prog 20 #[.pointer (some ⟨a, 0, none⟩), .string { data := #[108, 111, 103] }] w fun e w' => e = .returned (.int .i64 (sf : Int)) ∧ w' = w :=
  syncedA h { data := #[108, 111, 103] } (by decide)
theorem lFree {w : World} {S : Nat → Prop} {a n k : Nat} {al : List UInt8} {sf : Nat} (h : DiskA w S a n (lg (k + 1) al sf)) :
    Calls Try.prog 21 #[.pointer (some ⟨a, 0, none⟩)] w fun e w' => e = .returned (.int .i64 ((n - al.length : Nat) : Int)) ∧ Below w.heap.size w w' := by
  have := freeA h
  rw [show totalA (lg (k + 1) al sf) = al.length from by simp [lg_succ, totalA]] at this
  exact this

def StrsAt (w : World) (oa : Option Addr) (ss : List ByteArray) : Prop :=
  ss = [] ∨ ∃ b off, oa = some ⟨b, off, none⟩ ∧ b < w.heap.size ∧ ∀ j (hj : j < ss.length), w.cell? ⟨b, off + j, none⟩ = some (.string ss[j]) ∧ ss[j].size ≤ maxLen


theorem appA {w : World} {S : Nat → Prop} {a n k : Nat} {A : ByteArray} {sf : Nat} (h : DiskA w S a n (lg k A.data.toList sf)) (h0 : k = 0 → A.data.toList = [] ∧ sf = 0) (b : ByteArray) (hb : b.size ≤ maxLen) (m : Nat) (hm : m = min b.size (n - A.size)) (E : Int) (hE : E = if b.size ≤ n - A.size then 0 else 7) :
    Calls Try.prog 15 #[.pointer (some ⟨a, 0, none⟩), .string { data := #[108, 111, 103] }, .string b] w fun e w' => e = .returned (.int .i64 E) ∧ AfterA S w w' a n (lg (k + 1) (A ++ b.extract 0 m).data.toList sf) := by
  subst hm hE
  have e1 : A.data.toList.length = A.size := rfl
  have e2 : (A ++ b.extract 0 (min b.size (n - A.size))).data.toList = A.data.toList ++ b.data.toList.take (min b.size (n - A.size)) := by simp
  have := lApp h h0 b hb
  rw [e1] at this
  rw [e2]
  exact this

set_option maxHeartbeats 6400000 in
theorem safe_walk (w : World) (c : Int) (po : Option Addr) (ss : List ByteArray) (pcap : Nat) (so : Option Addr) (ys : List Int) (scap : Nat) (oa : Option Addr) (ks : List Int) (cap : Nat)
    (hp : Hid (StrsAt w po ss)) (hpl : ss.length ≤ 9223372036854775807) (hy : Hid (IntsAt w so ys)) (hyl : ys.length ≤ 9223372036854775807) (hyB : Hid (ys ≠ [] → ∀ b off, so = some ⟨b, off, none⟩ → b < w.heap.size))
    (hk : Hid (IntsAt w oa ks)) (hlen : Hid (ks.length ≤ maxLen)) (hB : Hid (ks ≠ [] → ∀ b off, oa = some ⟨b, off, none⟩ → b < w.heap.size)) (r : Int) (n : Nat) (hr : Hid (1 + r = (n : Int))) (hr0 : 0 ≤ r) (hr1 : r < 5000)
    (hpick : Hid (∀ W, Calls Try.prog 17 #[.int .i64 c, .int .i64 5000] W fun e w' => e = .returned (.int .i64 r) ∧ w' = W)) :
    Calls Try.prog 4 #[.int .i64 c, .slice po ss.length pcap, .slice so ys.length scap, .slice oa ks.length cap] w fun e w' => e = .returned (.bool true) ∧ Below w.heap.size w w' := by
  have hn1 : 1 ≤ n := by have := hr.out; omega
  have hn2 : n ≤ 5000 := by have := hr.out; omega
  have hrn : 1 + r = (n : Int) := hr.out
  have HSh : Hid (Calls Try.prog 9 #[] w fun e w' => e = .returned (.bool true) ∧ Below w.heap.size w w') := shown_any w
  go_enter Try.func4, Try.ntmps4
  go_wp2_with (go_at_call 9; refine HSh.out.mono ?_; rintro e w1 ⟨rfl, hb1⟩)
  go_wp2_with (go_at_call 17; refine (hpick.out _).mono ?_; rintro e w2 ⟨rfl, rfl⟩)
  go_wp2_with (go_at_call 10; refine (sh0 n _ hn1 (by omega) w.heap.size w hb1 hb1.size _ rfl).mono ?_; rintro e w3 ⟨rfl, hd3, -⟩)
  have HD3 : Hid (On w.heap.size w w3 w2.heap.size n [] (fun k => k = w2.heap.size)) := hd3
  generalize w2.heap.size = ca at *
  clear hd3 hb1
  go_loopw [12, 13, 14] (fun a0 s0 i0 wr => ∃ (k : Nat) (A : ByteArray) (sf : Nat) (S : Nat → Prop), k ≤ ss.length ∧ k ≤ 50 ∧ i0 = .int .i64 (k : Int) ∧ a0 = .string A ∧ s0 = .int .i64 (sf : Int) ∧ sf ≤ A.size ∧ A.size ≤ n ∧
      Hid (On w.heap.size w wr ca n (lg k A.data.toList sf) S ∧ (k = 0 → A.data.toList = [] ∧ sf = 0))) (fun _ _ i0 _ => ss.length - (intOf i0).toNat)
  case atStart => exact ⟨0, ByteArray.empty, 0, _, Nat.zero_le _, by omega, rfl, rfl, rfl, Nat.zero_le _, Nat.zero_le _, HD3.out, fun _ => ⟨rfl, rfl⟩⟩
  case round =>
    obtain ⟨k, A, sf, S, hkl, hk50, rfl, rfl, rfl, hsf, hAn, hI⟩ := hrel
    by_cases hgo : k < ss.length ∧ k < 50
    · obtain ⟨hk1, hk2⟩ := hgo
      have hk1' : (k : Int) < (ss.length : Int) := by omega
      have hk2' : (k : Int) < 50 := by omega
      obtain ⟨pb, pf, hpe, hpb, hps⟩ : ∃ b off, po = some ⟨b, off, none⟩ ∧ b < w.heap.size ∧ ∀ j (hj : j < ss.length), w.cell? ⟨b, off + j, none⟩ = some (.string ss[j]) ∧ ss[j].size ≤ maxLen := by
        rcases hp.out with h | h
        · rw [h] at hk1; simp at hk1
        · exact h
      obtain ⟨hps1, hps2⟩ := hps k hk1
      generalize ss[k] = b at *
      subst hpe
      have hb47 : b.size ≤ 9223372036854775807 := by unfold maxLen at hps2; omega
      have HCell : Hid (∀ W, Below w.heap.size w W → W.cell? ⟨pb, pf + k, none⟩ = some (.string b)) := fun W hW => (hW.cell (p := ⟨pb, pf + k, none⟩) hpb).trans hps1
      have hcr := HCell.out _ hI.out.1.2.2.1
      obtain ⟨m, hm⟩ : ∃ m : Nat, m = min b.size (n - A.size) := ⟨_, rfl⟩
      have hmin : min (b.size : Int) ((n : Int) - (A.size : Int)) = (m : Int) := by omega
      have hmb : (m : Int) ≤ (b.size : Int) := by omega
      have hmA : A.size + m ≤ n := by omega
      have HApp : Hid (∀ E : Int, (E = if b.size ≤ n - A.size then 0 else 7) → Calls Try.prog 15 #[.pointer (some ⟨ca, 0, none⟩), .string { data := #[108, 111, 103] }, .string b] wr fun e w' => e = .returned (.int .i64 E) ∧ AfterA S wr w' ca n (lg (k + 1) (A ++ b.extract 0 m).data.toList sf)) :=
        fun E hE => appA hI.out.1.1 hI.out.2 b hps2 m hm E hE
      have hAs : (A ++ b.extract 0 m).size = A.size + m := by
        simp; omega
      have HAs : Hid ((A ++ b.extract 0 m).size = A.size + m) := hAs
      clear hAs hm
      by_cases hf : b.size ≤ n - A.size
      · have hme : ((m : Int) == (b.size : Int)) = true := by simp; omega
        by_cases hs : k < ys.length
        · obtain ⟨x, hx, HYc⟩ : ∃ x : Int, (-9223372036854775808 ≤ x ∧ x ≤ 9223372036854775807) ∧ Hid (∃ sb sf', so = some ⟨sb, sf', none⟩ ∧ ∀ W, Below w.heap.size w W → W.cell? ⟨sb, sf' + k, none⟩ = some (.int .i64 x)) := by
            rcases hy.out with h | ⟨sb, sf', e, h⟩
            · rw [h] at hs; simp at hs
            · exact ⟨ys[k], (h k hs).2, sb, sf', e, fun W hW => (hW.cell (p := ⟨sb, sf' + k, none⟩) (hyB.out (fun e => by rw [e] at hs; simp at hs) sb sf' e)).trans (h k hs).1⟩
          obtain ⟨sb, sf', hse, hyc⟩ := HYc.out
          subst hse
          clear HYc
          have HYc : Hid (∀ W, Below w.heap.size w W → W.cell? ⟨sb, sf' + k, none⟩ = some (.int .i64 x)) := hyc
          clear hyc
          have hs' : (k : Int) < (ys.length : Int) := by omega
          cases hev : (x.tmod 2 == 0)
          · go_wp2_with (go_at_call 15; refine (HApp.out 0 (by rw [if_pos hf])).mono ?_; rintro e w4 ⟨rfl, hA⟩; obtain ⟨S4, hd4, -, -⟩ := hI.out.1.step hA; clear hA; have hc4 := HCell.out _ hd4.2.2.1; have hy4 := HYc.out _ hd4.2.2.1)
            go_roundw
            case rel =>
              refine ⟨k + 1, A ++ b.extract 0 m, sf, S4, by omega, by omega, by go_num, rfl, ?_, ?_, by rw [HAs.out]; exact hmA, hd4, fun h => absurd h (by omega)⟩
              · rfl
              · rw [HAs.out]; omega
            case measure => simp [intOf]; omega
          · go_wp2_with (go_at_call 15; refine (HApp.out 0 (by rw [if_pos hf])).mono ?_; rintro e w4 ⟨rfl, hA⟩; obtain ⟨S4, hd4, -, -⟩ := hI.out.1.step hA; clear hA; have hc4 := HCell.out _ hd4.2.2.1; have hy4 := HYc.out _ hd4.2.2.1)
            go_wp2_with (go_at_call 18; refine (lSync hd4.1).mono ?_; rintro e w5 ⟨rfl, hA⟩; obtain ⟨S5, hd5, -, -⟩ := hd4.step hA; clear hA)
            go_roundw
            case rel =>
              refine ⟨k + 1, A ++ b.extract 0 m, (A ++ b.extract 0 m).data.toList.length, S5, by omega, by omega, by go_num, rfl, ?_, ?_, by rw [HAs.out]; exact hmA, hd5, fun h => absurd h (by omega)⟩
              · show _ = Value.int .i64 (((A ++ b.extract 0 m).size : Nat) : Int)
                rw [HAs.out]; first | rfl | go_num | (simp; omega)
              · exact Nat.le_refl _
            case measure => simp [intOf]; omega
        · have hs' : ¬ ((k : Int) < (ys.length : Int)) := by omega
          go_wp2_with (go_at_call 15; refine (HApp.out 0 (by rw [if_pos hf])).mono ?_; rintro e w4 ⟨rfl, hA⟩; obtain ⟨S4, hd4, -, -⟩ := hI.out.1.step hA; clear hA; have hc4 := HCell.out _ hd4.2.2.1)
          go_roundw
          case rel =>
            refine ⟨k + 1, A ++ b.extract 0 m, sf, S4, by omega, by omega, by go_num, rfl, ?_, ?_, by rw [HAs.out]; exact hmA, hd4, fun h => absurd h (by omega)⟩
            · rfl
            · rw [HAs.out]; omega
          case measure => simp [intOf]; omega
      · have hme : ((m : Int) == (b.size : Int)) = false := by simp; omega
        by_cases hs : k < ys.length
        · obtain ⟨x, hx, HYc⟩ : ∃ x : Int, (-9223372036854775808 ≤ x ∧ x ≤ 9223372036854775807) ∧ Hid (∃ sb sf', so = some ⟨sb, sf', none⟩ ∧ ∀ W, Below w.heap.size w W → W.cell? ⟨sb, sf' + k, none⟩ = some (.int .i64 x)) := by
            rcases hy.out with h | ⟨sb, sf', e, h⟩
            · rw [h] at hs; simp at hs
            · exact ⟨ys[k], (h k hs).2, sb, sf', e, fun W hW => (hW.cell (p := ⟨sb, sf' + k, none⟩) (hyB.out (fun e => by rw [e] at hs; simp at hs) sb sf' e)).trans (h k hs).1⟩
          obtain ⟨sb, sf', hse, hyc⟩ := HYc.out
          subst hse
          clear HYc
          have HYc : Hid (∀ W, Below w.heap.size w W → W.cell? ⟨sb, sf' + k, none⟩ = some (.int .i64 x)) := hyc
          clear hyc
          have hs' : (k : Int) < (ys.length : Int) := by omega
          cases hev : (x.tmod 2 == 0)
          · go_wp2_with (go_at_call 15; refine (HApp.out 7 (by rw [if_neg hf])).mono ?_; rintro e w4 ⟨rfl, hA⟩; obtain ⟨S4, hd4, -, -⟩ := hI.out.1.step hA; clear hA; have hc4 := HCell.out _ hd4.2.2.1; have hy4 := HYc.out _ hd4.2.2.1)
            go_roundw
            case rel =>
              refine ⟨k + 1, A ++ b.extract 0 m, sf, S4, by omega, by omega, by go_num, rfl, ?_, ?_, by rw [HAs.out]; exact hmA, hd4, fun h => absurd h (by omega)⟩
              · rfl
              · rw [HAs.out]; omega
            case measure => simp [intOf]; omega
          · go_wp2_with (go_at_call 15; refine (HApp.out 7 (by rw [if_neg hf])).mono ?_; rintro e w4 ⟨rfl, hA⟩; obtain ⟨S4, hd4, -, -⟩ := hI.out.1.step hA; clear hA; have hc4 := HCell.out _ hd4.2.2.1; have hy4 := HYc.out _ hd4.2.2.1)
            go_wp2_with (go_at_call 18; refine (lSync hd4.1).mono ?_; rintro e w5 ⟨rfl, hA⟩; obtain ⟨S5, hd5, -, -⟩ := hd4.step hA; clear hA)
            go_roundw
            case rel =>
              refine ⟨k + 1, A ++ b.extract 0 m, (A ++ b.extract 0 m).data.toList.length, S5, by omega, by omega, by go_num, rfl, ?_, ?_, by rw [HAs.out]; exact hmA, hd5, fun h => absurd h (by omega)⟩
              · show _ = Value.int .i64 (((A ++ b.extract 0 m).size : Nat) : Int)
                rw [HAs.out]; first | rfl | go_num | (simp; omega)
              · exact Nat.le_refl _
            case measure => simp [intOf]; omega
        · have hs' : ¬ ((k : Int) < (ys.length : Int)) := by omega
          go_wp2_with (go_at_call 15; refine (HApp.out 7 (by rw [if_neg hf])).mono ?_; rintro e w4 ⟨rfl, hA⟩; obtain ⟨S4, hd4, -, -⟩ := hI.out.1.step hA; clear hA; have hc4 := HCell.out _ hd4.2.2.1)
          go_roundw
          case rel =>
            refine ⟨k + 1, A ++ b.extract 0 m, sf, S4, by omega, by omega, by go_num, rfl, ?_, ?_, by rw [HAs.out]; exact hmA, hd4, fun h => absurd h (by omega)⟩
            · rfl
            · rw [HAs.out]; omega
          case measure => simp [intOf]; omega
    · cases k with
      | zero =>
        have hz : ss.length = 0 := by omega
        have hz1 : ¬ ((0 : Int) < (ss.length : Int)) := by omega
        have hz2 : (((ss.length : Nat) : Int) == 0) = true := beq_iff_eq.2 (by omega)
        obtain ⟨L, hL1, hL2, hcr⟩ := lCrash hI.out.1 hsf oa ks cap hk.out hlen.out hB.out
        have HCr : Hid (Calls Try.prog 16 #[.pointer (some ⟨ca, 0, none⟩), .slice oa ks.length cap] wr fun e w' => e = .returned (.tuple #[]) ∧ AfterA S wr w' ca n (lg 0 (A.data.toList.take L) L)) := hcr
        clear hcr hz hgo
        go_wp2_with (go_at_call 16; refine HCr.out.mono ?_; rintro e w6 ⟨rfl, hA⟩; obtain ⟨S6, hd6, -, -⟩ := hI.out.1.step hA; clear hA)
        go_wp2_with (go_at_call 19; refine (lRead0 hd6.1).mono ?_; rintro e w7 ⟨rfl, hb7⟩; have hd7 := hd6.under hb7; clear hb7 hd6)
        go_ret
        exact ⟨rfl, hd7.2.2.1⟩
      | succ k =>
        have hz2 : (((ss.length : Nat) : Int) == 0) = false := beq_eq_false_iff_ne.2 (by omega)
        obtain ⟨L, hL1, hL2, hcr⟩ := lCrash hI.out.1 hsf oa ks cap hk.out hlen.out hB.out
        have HCr : Hid (Calls Try.prog 16 #[.pointer (some ⟨ca, 0, none⟩), .slice oa ks.length cap] wr fun e w' => e = .returned (.tuple #[]) ∧ AfterA S wr w' ca n (lg (k + 1) (A.data.toList.take L) L)) := hcr
        have hL3 : L ≤ A.size := hL2
        have eR : strOf (A.data.toList.take L) = A.extract 0 L := by
          apply ByteArray.ext
          apply Array.ext'
          simp [strOf]
        have HRd : Hid (∀ W T, DiskA W T ca n (lg (k + 1) (A.data.toList.take L) L) → Calls Try.prog 19 #[.pointer (some ⟨ca, 0, none⟩), .string { data := #[108, 111, 103] }] W fun e w' => e = .returned (.tuple #[.string (A.extract 0 L), .int .i64 0]) ∧ Below W.heap.size W w') := fun W T hD => by rw [← eR]; exact lRead hD
        have eL : (A.data.toList.take L).length = L := by rw [List.length_take]; exact Nat.min_eq_left hL2
        have HFr : Hid (∀ W T, DiskA W T ca n (lg (k + 1) (A.data.toList.take L) L) → Calls Try.prog 21 #[.pointer (some ⟨ca, 0, none⟩)] W fun e w' => e = .returned (.int .i64 ((n : Int) - (L : Int))) ∧ Below W.heap.size W w') := fun W T hD => by
          have := lFree hD
          rw [eL, show (((n - L : Nat) : Int)) = (n : Int) - (L : Int) from by omega] at this
          exact this
        have hmn : min L A.size = L := by omega
        have hL4 : (sf : Int) ≤ (L : Int) := by omega
        have hL5 : (L : Int) ≤ (A.size : Int) := by omega
        clear hcr hL1 hL2 eR eL hk50
        by_cases h1 : k + 1 < ss.length
        · have h1' : (k : Int) + 1 < (ss.length : Int) := by omega
          have h2' : ¬ ((k : Int) + 1 < 50) := by omega
          clear hgo
          go_wp2_with (go_at_call 16; refine HCr.out.mono ?_; rintro e w6 ⟨rfl, hA⟩; obtain ⟨S6, hd6, -, -⟩ := hI.out.1.step hA; clear hA)
          go_wp2_with (go_at_call 19; refine (HRd.out _ _ hd6.1).mono ?_; rintro e w7 ⟨rfl, hb7⟩; have hd7 := hd6.under hb7; clear hb7 hd6)
          go_wp2_with (go_at_call 20; refine (lSynced hd7.1).mono ?_; rintro e w8 ⟨rfl, rfl⟩)
          go_wp2_with (go_at_call 21; refine (HFr.out _ _ hd7.1).mono ?_; rintro e w9 ⟨rfl, hb9⟩; have hd9 := hd7.under hb9; clear hb9 hd7)
          go_ret
          exact ⟨rfl, hd9.2.2.1⟩
        · have h1' : ¬ ((k : Int) + 1 < (ss.length : Int)) := by omega
          clear hgo
          go_wp2_with (go_at_call 16; refine HCr.out.mono ?_; rintro e w6 ⟨rfl, hA⟩; obtain ⟨S6, hd6, -, -⟩ := hI.out.1.step hA; clear hA)
          go_wp2_with (go_at_call 19; refine (HRd.out _ _ hd6.1).mono ?_; rintro e w7 ⟨rfl, hb7⟩; have hd7 := hd6.under hb7; clear hb7 hd6)
          go_wp2_with (go_at_call 20; refine (lSynced hd7.1).mono ?_; rintro e w8 ⟨rfl, rfl⟩)
          go_wp2_with (go_at_call 21; refine (HFr.out _ _ hd7.1).mono ?_; rintro e w9 ⟨rfl, hb9⟩; have hd9 := hd7.under hb9; clear hb9 hd7)
          go_ret
          exact ⟨rfl, hd9.2.2.1⟩
end Go.Proofs.Ytpdghpmfacaglaa
