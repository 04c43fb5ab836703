/- Disks beside one another. -/
import Derived.Test.YtpdghpmfacaglabOne
namespace Go.Proofs.Ytpdghpmfacaglab
open Go.RowKit Go.Maps Go.Sort
set_option maxRecDepth 100000
set_option linter.unusedSimpArgs false
set_option linter.unusedVariables false

theorem OpsAt.under {w w1 : World} {so : Option Addr} {ops : List OpV} (h : OpsAt w so ops) (hb : Below w.heap.size w w1) : OpsAt w1 so ops := by
  rcases h with h | ⟨b, off, e, hbw, hc⟩
  · exact .inl h
  · refine .inr ⟨b, off, e, Nat.lt_of_lt_of_le hbw hb.size, fun i hi => ⟨(hc i hi).1, ?_⟩⟩
    obtain ⟨q0, q1, q2, q3, q4⟩ := (hc i hi).2
    exact ⟨(hb.cell (p := ⟨b, _, none⟩) hbw).trans q0, (hb.cell (p := ⟨b, _, none⟩) hbw).trans q1, (hb.cell (p := ⟨b, _, none⟩) hbw).trans q2, (hb.cell (p := ⟨b, _, none⟩) hbw).trans q3, (hb.cell (p := ⟨b, _, none⟩) hbw).trans q4⟩

/-- A disk made by run, seen from an elder world. -/
theorem runOn {w0 w : World} {B : Nat} (hb : Below B w0 w) (hB : B ≤ w.heap.size) (n : Nat) (hn1 : 1 ≤ n) (hn2 : n ≤ 16777216) (so : Option Addr) (ops : List OpV) (cap : Nat) (hops : OpsAt w so ops) (hol : ops.length ≤ 9223372036854775807) (N : Int) (hN : N = n) :
    Calls Try.prog 5 #[.int .i64 N, .slice so ops.length cap] w fun e w' => e = .returned (.pointer (some ⟨w.heap.size, 0, none⟩)) ∧ ∃ S, On B w0 w' w.heap.size n (runL n (ops.take 100)) S ∧ (∀ k, S k → w.heap.size ≤ k) ∧ Below w.heap.size w w' := by
  subst hN
  refine (run_walk w n hn1 hn2 so ops cap hops hol).mono (fun e w' ⟨he, S, h1, h2, h3, h4⟩ => ⟨he, S, ⟨h1, fun k hk => Nat.le_trans hB (h2 k hk), hb.trans (h3.mono hB), Nat.le_trans hB h3.size⟩, h2, h3⟩)

/-- A copy beside its disk. -/
theorem cloneOn {B : Nat} {w0 w : World} {a size : Nat} {l : List AF} {S : Nat → Prop} (h : On B w0 w a size l S) :
    Calls Try.prog 8 #[.pointer (some ⟨a, 0, none⟩)] w fun e w' => e = .returned (.pointer (some ⟨w.heap.size, 0, none⟩)) ∧ On B w0 w' a size l S ∧ ∃ Sc, On B w0 w' w.heap.size size l Sc ∧ (∀ k, Sc k → w.heap.size ≤ k) ∧ Below w.heap.size w w' :=
  (cloneA h.1).mono (fun e w' ⟨he, Sc, hc, hS, hb⟩ => ⟨he, h.under hb, Sc, ⟨hc, fun k hk => Nat.le_trans h.2.2.2 (hS k hk), (h.under hb).2.2.1, (h.under hb).2.2.2⟩, hS, hb⟩)

theorem On.beside {B : Nat} {w0 w w' : World} {a b size size' : Nat} {l l' : List AF} {S T T' : Nat → Prop} (h : On B w0 w a size l S) (h' : On B w0 w' b size' l' T') (hk : Keeps T w w') (hd : ∀ k, S k → ¬ T k) : On B w0 w' a size l S :=
  ⟨h.1.beside hk hd, h.2.1, h'.2.2.1, h'.2.2.2⟩

end Go.Proofs.Ytpdghpmfacaglab
