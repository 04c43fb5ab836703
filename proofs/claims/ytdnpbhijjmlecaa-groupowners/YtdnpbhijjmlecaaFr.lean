/- What the arguments of a statement are in memory: lists, states, calls. -/
import Derived.Test.YtdnpbhijjmlecaaG27
import Derived.ProofKit
import Derived.OpenShut
import Derived.ShutString
import Derived.ChangeOld
import Derived.SliceStrings
import Derived.SizedLaws
import Derived.Deep.Slices
import Derived.Lib.SmallJoins
namespace Go.Proofs.Ytdnpbhijjmlecaa
open Go.ChangeShapes Go.WideShapes Go.ChangeAt Go.RowKit
set_option linter.unusedVariables false
set_option linter.unusedSimpArgs false
set_option maxRecDepth 100000

theorem own : ownKnob Try.prog.godebug = none := by kernel_rfl
theorem laidOut : laidOutB Try.prog = true := by kernel_rfl
theorem ocells3 : Try.prog.cellsOf 3 = 1 := by kernel_rfl
theorem ocells30 : Try.prog.cellsOf 30 = 1 := by kernel_rfl
theorem obytes3 : Try.prog.bytesOf 3 = 8 := by kernel_rfl

/-- No data of it is too great. -/
def Light {H : Type} (t : TypeId) (d : DataW H) : Prop := ∀ n ∈ d.weights Try.prog t, n ≤ reachBytes

section
variable {H : Type} {enc : TypeId × Value → H} {w : World}

theorem list_of {fuel : Nat} {cs : List Value} {x : DataW H × List MemPlace} (h : DataW.trod enc Try.prog w 0 (fun _ => true) true fuel 30 cs = some x) (hw : Light 30 x.1) :
    ∃ a l c, cs = [.slice a (List.length l) c] ∧ IL w (.slice a (List.length l) c) l := by
  rcases open_ints Try.underlying30 Try.underlying3 (by kernel_rfl) h with ⟨rfl, _⟩ | ⟨x0, len, cap, zs, rfl, _, hl, hm, hz, rfl, hcell, hwz⟩
  · exact ⟨none, [], 0, rfl, IL.nil _⟩
  · simp only [if_true] at hz
    have hlen : (zs.take len).length = len := by rw [List.length_take]; omega
    have hwt : cap * 8 ≤ reachBytes := by
      have := hw (((lits (H := H) .i64 (zs.take len)).length + (lits (H := H) .i64 (zs.drop len)).length) * Try.prog.bytesOf 3) (by simp [DataW.weights, Try.underlying30])
      rw [obytes3] at this
      simp only [lits, List.length_map, List.length_take, List.length_drop] at this
      have e : min len zs.length + (zs.length - len) = cap := by omega
      rw [e] at this
      exact this
    refine ⟨some x0, zs.take len, cap, by rw [hlen], ?_⟩
    refine ⟨⟨some x0, cap, rfl, by omega, hm, (fun h => by cases h), fun hne => ?_⟩, fun n hn => ?_, ?_⟩
    · obtain ⟨b, off, spot⟩ := x0
      have h0 : 0 < zs.length := by
        rcases Nat.eq_zero_or_pos zs.length with h | h
        · exact absurd (by rw [List.eq_nil_of_length_eq_zero h]; simp) hne
        · exact h
      have hc := hcell 0 h0
      cases spot with
      | some sp =>
        exfalso
        simp [World.cell?, Addr.add] at hc
        split at hc <;> simp_all
      | none =>
        refine ⟨b, off, rfl, World.block_lt_of_cell? w _ hc, fun j hj => ?_⟩
        have hjz : j < zs.length := by rw [List.length_take] at hj; omega
        have h2 := hcell j hjz
        have e : (zs.take len)[j] = zs.getD j 0 := by simp [List.getD, hjz]
        rw [add_at] at h2
        rw [e]
        exact h2
    · exact bounds_i64 (hwz n (List.mem_of_mem_take hn))
    · rw [hlen]
      unfold reachBytes at hwt
      omega

/-- A list among the arguments. -/
theorem row_of {v : Value} {d : DataW H} {p : List MemPlace} {a : Option Addr} {len cap : Nat} (hv : v = .slice a len cap) (h : DataW.Trod enc Try.prog w 0 (fun _ => true) true 30 v d p) (hw : Light 30 d) : ∃ l : List Int, IL w v l := by
  subst hv
  obtain ⟨fuel, hf⟩ := h
  obtain ⟨a', l, c, e, hi⟩ := list_of hf hw
  simp [Value.cells] at e
  obtain ⟨rfl, rfl, rfl⟩ := e
  exact ⟨l, hi⟩
theorem light_of {ts : List TypeId} {ds : List (DataW H)} (h : (DataW.weightsEach Try.prog ts ds).all (· ≤ reachBytes) = true) (j : Nat) {t : TypeId} {d : DataW H} (ht : ts[j]? = some t) (hd : ds[j]? = some d) : Light t d := fun n hn => by
  have := List.all_eq_true.1 h n (DataW.weights_mem_each ht hd n hn)
  simpa using this
end
end Go.Proofs.Ytdnpbhijjmlecaa
