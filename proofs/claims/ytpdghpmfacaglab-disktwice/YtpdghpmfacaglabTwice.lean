/- DiskTwice, the walk: it answers true and turns nothing that was there. -/
import Derived.Test.YtpdghpmfacaglabErrs
namespace Go.Proofs.Ytpdghpmfacaglab
open Go.RowKit Go.Maps Go.Sort
set_option maxRecDepth 100000
set_option linter.unusedSimpArgs false
set_option linter.unusedVariables false

theorem crashL_all (ks : List Int) : ∀ (i : Nat) (l : List AF), (∀ x ∈ l, x.safe ≤ x.bs.length) → ∀ x ∈ crashL ks i l.length l, x.bs.length = x.safe
  | _, [], _, x, hx => by simp [crashL] at hx
  | i, y :: r, h, x, hx => by
    have hy := h y (by simp)
    have hr := fun z hz => h z (List.mem_cons_of_mem _ hz)
    simp only [List.length_cons, crashL] at hx
    split at hx
    · rename_i hc
      rcases List.mem_cons.1 hx with rfl | hx
      · exact hc
      · exact crashL_all ks i r hr x hx
    · rcases List.mem_cons.1 hx with rfl | hx
      · have := keptN_le ks i (y.bs.length - y.safe)
        simp only [crash1, List.length_take]
        omega
      · exact crashL_all ks (i + 1) r hr x hx

theorem crashL_same (ks : List Int) : ∀ (i : Nat) (l : List AF) (j : Nat), (∀ x ∈ l, x.bs.length = x.safe) → crashL ks i j l = l
  | _, l, 0, _ => by simp [crashL]
  | _, [], _ + 1, _ => rfl
  | i, y :: r, j + 1, h => by
    simp only [crashL]
    rw [if_pos (h y (by simp)), crashL_same ks i r j (fun x hx => h x (List.mem_cons_of_mem _ hx))]

theorem crashOn {B : Nat} {w0 w : World} {S : Nat → Prop} {a n : Nat} {l : List AF} (h : On B w0 w a n l S) (oa : Option Addr) (ks : List Int) (cap : Nat) (hk : IntsAt w0 oa ks) (hlen : ks.length ≤ maxLen) (hB : ks ≠ [] → ∀ b off, oa = some ⟨b, off, none⟩ → b < B) :
    Calls Try.prog 7 #[.pointer (some ⟨a, 0, none⟩), .slice oa ks.length cap] w fun e w' => e = .returned (.tuple #[]) ∧ AfterA S w w' a n (crashL ks 0 l.length l) := by
  have hk' : IntsAt w oa ks := by
    by_cases hks : ks = []
    · exact .inl hks
    · exact hk.kept (fun b off e => h.2.2.1.block b (hB hks b off e))
  exact crashA h.1 oa ks cap hk' hlen (fun hks b off e hS => by have := h.2.1 b hS; have := hB hks b off e; omega)

set_option maxHeartbeats 1600000 in
theorem twice_walk (w : World) (c : Int) (so : Option Addr) (ops : List OpV) (cap : Nat) (fo : Option Addr) (fk : List Int) (fcap : Nat) (to : Option Addr) (tk : List Int) (tcap : Nat) (hops : Hid (OpsAt w so ops)) (hol : ops.length ≤ 9223372036854775807)
    (hf : Hid (IntsAt w fo fk)) (hfl : Hid (fk.length ≤ maxLen)) (hfB : Hid (fk ≠ [] → ∀ b off, fo = some ⟨b, off, none⟩ → b < w.heap.size)) (ht : Hid (IntsAt w to tk)) (htl : Hid (tk.length ≤ maxLen)) (htB : Hid (tk ≠ [] → ∀ b off, to = some ⟨b, off, none⟩ → b < w.heap.size))
    (r : Int) (n : Nat) (hr : Hid (1 + r = (n : Int))) (hr0 : 0 ≤ r) (hr1 : r < 2000)
    (hpick : Hid (∀ W, Calls Try.prog 6 #[.int .i64 c, .int .i64 2000] W fun e w' => e = .returned (.int .i64 r) ∧ w' = W)) :
    Calls Try.prog 3 #[.int .i64 c, .slice so ops.length cap, .slice fo fk.length fcap, .slice to tk.length tcap] w fun e w' => e = .returned (.bool true) ∧ Below w.heap.size w w' := by
  have hn1 : 1 ≤ n := by have := hr.out; omega
  have hn2 : n ≤ 2000 := by have := hr.out; omega
  have hrn : 1 + r = (n : Int) := hr.out
  have HSh : Hid (Calls Try.prog 4 #[] w fun e w' => e = .returned (.bool true) ∧ Below w.heap.size w w') := shown_any w
  have HRun : Hid (∀ W, Below w.heap.size w W → Calls Try.prog 5 #[.int .i64 (n : Int), .slice so ops.length cap] W fun e w' => e = .returned (.pointer (some ⟨W.heap.size, 0, none⟩)) ∧ ∃ S, On w.heap.size w w' W.heap.size n (runL n (ops.take 100)) S ∧ (∀ k, S k → W.heap.size ≤ k) ∧ Below W.heap.size W w') := fun W hW =>
    runOn hW hW.size n hn1 (by omega) so ops cap (hops.out.under hW) hol _ rfl
  generalize runL n (ops.take 100) = l at *
  go_enter Try.func3, Try.ntmps3
  go_wp2_with (go_at_call 4; refine HSh.out.mono ?_; rintro e w1 ⟨rfl, hb1⟩)
  go_wp2_with (go_at_call 6; refine (hpick.out _).mono ?_; rintro e w2 ⟨rfl, rfl⟩)
  go_wp2_with (go_at_call 5; refine (HRun.out _ hb1).mono ?_; rintro e w3 ⟨rfl, Sd, hd3, -, -⟩; clear hb1)
  generalize w2.heap.size = pd at *
  have hsafe := fun x hx => (hd3.1.facts.2.2.2.2 x hx).1
  have HAll : Hid (∀ x ∈ crashL fk 0 l.length l, x.bs.length = x.safe) := crashL_all fk 0 l hsafe
  clear hsafe
  go_wp2_with (go_at_call 7; refine (crashOn hd3 fo fk fcap hf.out hfl.out hfB.out).mono ?_; rintro e w4 ⟨rfl, hA⟩; obtain ⟨S4, hd4, -, -⟩ := hd3.step hA; clear hA hd3)
  generalize crashL fk 0 l.length l = l2 at *
  go_wp2_with (go_at_call 8; refine (cloneOn hd4).mono ?_; rintro e w5 ⟨rfl, hd5, Sc, hc5, hSc, hb5⟩; have hdc : ∀ k, S4 k → ¬ Sc k := fun k hk hs => (by have := hd4.1.below k hk; have := hSc k hs; omega); clear hd4 hb5 hSc)
  generalize w4.heap.size = pc at *
  go_wp2_with (go_at_call 7; refine (crashOn hc5 to tk tcap ht.out htl.out htB.out).mono ?_; rintro e w6 ⟨rfl, hA⟩; obtain ⟨S6, hc6, g1, g3⟩ := hc5.step hA; have hd6 := hd5.beside hc6 g3 hdc; clear hA hc5 hd5)
  have e2 : crashL tk 0 l2.length l2 = l2 := crashL_same tk 0 l2 l2.length HAll.out
  rw [e2] at hc6
  clear e2
  go_wp2_with (go_at_call 9; refine (one_walk _ _ _ n l2 S6 S4 hc6.1 hd6.1).mono ?_; rintro e w7 ⟨rfl, hb7⟩; have hd7 := hd6.under hb7; clear hb7)
  go_ret
  exact ⟨rfl, hd7.2.2.1⟩
end Go.Proofs.Ytpdghpmfacaglab
