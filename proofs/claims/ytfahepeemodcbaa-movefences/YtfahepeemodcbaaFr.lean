/- What the arguments of a statement are in memory: lists, states, calls. -/
import Derived.Test.YtfahepeemodcbaaM13
import Derived.ProofKit
import Derived.OpenShut
import Derived.ShutString
import Derived.ChangeOld
import Derived.SliceStrings
import Derived.SizedLaws
import Derived.Deep.Slices
import Derived.Lib.SmallJoins
namespace Go.Proofs.Ytfahepeemodcbaa
open Go.ChangeShapes Go.WideShapes Go.ChangeAt Go.RowKit
set_option linter.unusedVariables false
set_option linter.unusedSimpArgs false
set_option maxRecDepth 100000

theorem own : ownKnob Try.prog.godebug = none := by kernel_rfl
theorem laidOut : laidOutB Try.prog = true := by kernel_rfl
theorem cells24 : Try.prog.cellsOf 24 = 9 := by kernel_rfl
theorem cells26 : Try.prog.cellsOf 26 = 6 := by kernel_rfl
theorem ocells3 : Try.prog.cellsOf 3 = 1 := by kernel_rfl
theorem ocells22 : Try.prog.cellsOf 22 = 1 := by kernel_rfl
theorem obytes3 : Try.prog.bytesOf 3 = 8 := by kernel_rfl

/-- No data of it is too great. -/
def Light {H : Type} (t : TypeId) (d : DataW H) : Prop := ∀ n ∈ d.weights Try.prog t, n ≤ reachBytes

section
variable {H : Type} {enc : TypeId × Value → H} {w : World}

theorem list_of {fuel : Nat} {cs : List Value} {x : DataW H × List MemPlace} (h : DataW.trod enc Try.prog w 0 (fun _ => true) true fuel 22 cs = some x) (hw : Light 22 x.1) :
    ∃ a l c, cs = [.slice a (List.length l) c] ∧ IL w (.slice a (List.length l) c) l := by
  rcases open_ints Try.underlying22 Try.underlying3 (by kernel_rfl) h with ⟨rfl, _⟩ | ⟨x0, len, cap, zs, rfl, _, hl, hm, hz, rfl, hcell, hwz⟩
  · exact ⟨none, [], 0, rfl, IL.nil _⟩
  · simp only [if_true] at hz
    have hlen : (zs.take len).length = len := by rw [List.length_take]; omega
    have hwt : cap * 8 ≤ reachBytes := by
      have := hw (((lits (H := H) .i64 (zs.take len)).length + (lits (H := H) .i64 (zs.drop len)).length) * Try.prog.bytesOf 3) (by simp [DataW.weights, Try.underlying22])
      rw [obytes3] at this
      simp only [lits, List.length_map, List.length_take, List.length_drop] at this
      have e : min len zs.length + (zs.length - len) = cap := by omega
      rw [e] at this
      exact this
    refine ⟨some x0, zs.take len, cap, by rw [hlen], ?_⟩
    refine ⟨⟨some x0, cap, rfl, by omega, hm, (fun h => by cases h), fun hne => ?_⟩, fun n hn => ?_, ?_⟩
    · obtain ⟨b, off, spot⟩ := x0
      have h0 : 0 < zs.length := by
        rcases Nat.eq_zero_or_pos zs.length with h | h
        · exact absurd (by rw [List.eq_nil_of_length_eq_zero h]; simp) hne
        · exact h
      have hc := hcell 0 h0
      cases spot with
      | some sp =>
        exfalso
        simp [World.cell?, Addr.add] at hc
        split at hc <;> simp_all
      | none =>
        refine ⟨b, off, rfl, World.block_lt_of_cell? w _ hc, fun j hj => ?_⟩
        have hjz : j < zs.length := by rw [List.length_take] at hj; omega
        have h2 := hcell j hjz
        have e : (zs.take len)[j] = zs.getD j 0 := by simp [List.getD, hjz]
        rw [add_at] at h2
        rw [e]
        exact h2
    · exact bounds_i64 (hwz n (List.mem_of_mem_take hn))
    · rw [hlen]
      unfold reachBytes at hwt
      omega

theorem light_part {xs : List (DataW H × List MemPlace)} (hw : Light 24 (.agg (xs.map (·.1)) : DataW H)) (j : Nat) (t : TypeId) (ht : ([3, 3, 3, 3, 22, 22, 22, 22, 3] : List TypeId)[j]? = some t) (y : DataW H × List MemPlace) (hy : xs[j]? = some y) : Light t y.1 := by
  intro n hn
  refine hw n ?_
  have e : (DataW.agg (xs.map (·.1)) : DataW H).weights Try.prog 24 = DataW.weightsEach Try.prog [3, 3, 3, 3, 22, 22, 22, 22, 3] (xs.map (·.1)) := by
    simp only [DataW.weights, Try.underlying24]; rfl
  rw [e]
  exact DataW.weights_mem_each ht (by simp [hy]) n hn
theorem part_of {fuel : Nat} {cs : List Value} {x : DataW H × List MemPlace} (h : DataW.trod enc Try.prog w 0 (fun _ => true) true fuel 24 cs = some x) (hw : Light 24 x.1) :
    ∃ p : Pt, PartM w (.agg cs.toArray) p := by
  obtain ⟨xs, n, _, rfl, hl, hlen, hf⟩ := DataW.trod_struct Try.underlying24 h
  rw [cells24] at hl
  match cs, hl, xs, hlen with
  | [c0, c1, c2, c3, c4, c5, c6, c7, c8], _, [y0, y1, y2, y3, y4, y5, y6, y7, y8], _ =>
    have h0 := hf 0 _ rfl
    have h1 := hf 1 _ rfl
    have h2 := hf 2 _ rfl
    have h3 := hf 3 _ rfl
    have h4 := hf 4 _ rfl
    have h5 := hf 5 _ rfl
    have h6 := hf 6 _ rfl
    have h7 := hf 7 _ rfl
    have h8 := hf 8 _ rfl
    simp only [ocells3, ocells22, List.drop_zero, List.drop_succ_cons, List.take_succ_cons, List.take_zero, List.getElem?_cons_zero, List.getElem?_cons_succ] at h0 h1 h2 h3 h4 h5 h6 h7 h8
    obtain ⟨s0, e0, _, w0⟩ := DataW.trod_int Try.underlying3 h0
    obtain ⟨s1, e1, _, w1⟩ := DataW.trod_int Try.underlying3 h1
    obtain ⟨s2, e2, _, w2⟩ := DataW.trod_int Try.underlying3 h2
    obtain ⟨s3, e3, _, w3⟩ := DataW.trod_int Try.underlying3 h3
    obtain ⟨s8, e8, _, w8⟩ := DataW.trod_int Try.underlying3 h8
    obtain ⟨a4, l4, k4, e4, i4⟩ := list_of h4 (light_part hw 4 22 rfl _ rfl)
    obtain ⟨a5, l5, k5, e5, i5⟩ := list_of h5 (light_part hw 5 22 rfl _ rfl)
    obtain ⟨a6, l6, k6, e6, i6⟩ := list_of h6 (light_part hw 6 22 rfl _ rfl)
    obtain ⟨a7, l7, k7, e7, i7⟩ := list_of h7 (light_part hw 7 22 rfl _ rfl)
    simp [ocells3, ocells22] at e0 e1 e2 e3 e4 e5 e6 e7 e8
    subst e0 e1 e2 e3 e4 e5 e6 e7 e8
    exact ⟨⟨s0, s1, s2, s3, l4, l5, l6, l7, s8⟩, _, _, _, _, rfl, i4, i5, i6, i7, bounds_i64 w0, bounds_i64 w1, bounds_i64 w2, bounds_i64 w3, bounds_i64 w8⟩
/-- A state among the arguments. -/
theorem state_of {v : Value} {d : DataW H} {p : List MemPlace} {cs : Array Value} (hv : v = .agg cs) (h : DataW.Trod enc Try.prog w 0 (fun _ => true) true 24 v d p) (hw : Light 24 d) : ∃ q : Pt, PartM w v q := by
  subst hv
  obtain ⟨fuel, hf⟩ := h
  obtain ⟨q, hq⟩ := part_of hf hw
  refine ⟨q, ?_⟩
  have e : (Value.agg cs).cells.toList.toArray = cs := by simp [Value.cells]
  rw [e] at hq
  exact hq
/-- A list among the arguments. -/
theorem row_of {v : Value} {d : DataW H} {p : List MemPlace} {a : Option Addr} {len cap : Nat} (hv : v = .slice a len cap) (h : DataW.Trod enc Try.prog w 0 (fun _ => true) true 22 v d p) (hw : Light 22 d) : ∃ l : List Int, IL w v l := by
  subst hv
  obtain ⟨fuel, hf⟩ := h
  obtain ⟨a', l, c, e, hi⟩ := list_of hf hw
  simp [Value.cells] at e
  obtain ⟨rfl, rfl, rfl⟩ := e
  exact ⟨l, hi⟩
theorem light_of {ts : List TypeId} {ds : List (DataW H)} (h : (DataW.weightsEach Try.prog ts ds).all (· ≤ reachBytes) = true) (j : Nat) {t : TypeId} {d : DataW H} (ht : ts[j]? = some t) (hd : ds[j]? = some d) : Light t d := fun n hn => by
  have := List.all_eq_true.1 h n (DataW.weights_mem_each ht hd n hn)
  simpa using this
end
end Go.Proofs.Ytfahepeemodcbaa
