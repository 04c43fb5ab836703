/- A record of metadata among the arguments. -/
import Derived.Test.YtcmmfmibgnebpaaFrame
import Derived.Test.YtcmmfmibgnebpaaMeta
namespace Go.Proofs.Ytcmmfmibgnebpaa
open Go.ChangeShapes Go.WideShapes Go.ChangeAt Go.RowKit
set_option linter.unusedVariables false
set_option linter.unusedSimpArgs false
set_option maxRecDepth 100000

theorem cells43 : Try.prog.cellsOf 43 = 8 := by kernel_rfl
theorem cells41 : Try.prog.cellsOf 41 = 1 := by kernel_rfl

section
variable {H : Type} {enc : TypeId × Value → H} {w : World}

/-- Ints that came in. -/
theorem ints_in {cs : List Value} {fuel : Nat} {x : DataW H × List MemPlace} {v : Value} (hv : cs = [v]) (hf : DataW.trod enc Try.prog w 0 (fun _ => true) true fuel 41 cs = some x) :
    ∃ (zs : List Int) (a : Option Addr) (cap : Nat), v = .slice a zs.length cap ∧ IntsAt w a w.heap.size zs ∧ (∀ n ∈ zs, I64 n) ∧ zs.length ≤ maxLen := by
  subst hv
  rcases Deep.open_slice Try.underlying41 hf with ⟨hcs, _⟩ | ⟨x, l, c, m, n, D, Pl, hcs, _, hl, hm, hmm, _, hx⟩
  · simp at hcs
    subst hcs
    exact ⟨[], none, 0, rfl, .inl rfl, by simp, by simp⟩
  · simp at hcs
    subst hcs
    simp only [if_true] at hmm
    subst hmm
    rw [cells3] at hx
    by_cases h0 : l = 0
    · subst h0
      exact ⟨[], _, _, rfl, .inl rfl, by simp, by simp⟩
    · have hone : ∀ i, i < m → ∃ z : Int, I64 z ∧ w.cell? ((x.add (i * 1)).add 0) = some (.int .i64 z) := fun i hi => by
        obtain ⟨cs', h1, h2⟩ := hx i hi
        obtain ⟨hl1, hc⟩ := cellsUp h1
        obtain ⟨k, e0, _, wk⟩ := DataW.trod_int Try.underlying3 h2
        subst e0
        exact ⟨k, bounds_i64 wk, hc 0 _ rfl⟩
      obtain ⟨b, off, spot⟩ := x
      have hspot : spot = none := by
        obtain ⟨z, _, hc⟩ := hone 0 (by omega)
        have := World.cell?_spot hc
        simpa [Addr.add] using this
      subst hspot
      have hall : ∀ i, i < m → ∃ z : Int, I64 z ∧ w.cell? ⟨b, off + i, none⟩ = some (.int .i64 z) := fun i hi => by
        obtain ⟨z, hz, hc⟩ := hone i hi
        rw [add_add, Nat.mul_one, Nat.add_zero] at hc
        exact ⟨z, hz, hc⟩
      have hbw : b < w.heap.size := by
        obtain ⟨o, ho, hc⟩ := hall 0 (by omega)
        exact World.block_lt_of_cell? w _ hc
      have hV : ∃ V : Nat → Int, ∀ i, i < m → I64 (V i) ∧ w.cell? ⟨b, off + i, none⟩ = some (.int .i64 (V i)) :=
        ⟨fun i => if hi : i < m then Classical.choose (hall i hi) else 0, fun i hi => by
          simp only [hi, dite_true]
          exact Classical.choose_spec (hall i hi)⟩
      obtain ⟨V, hV⟩ := hV
      refine ⟨(List.range l).map V, some ⟨b, off, none⟩, m, by rw [List.length_map, List.length_range], .inr ⟨b, off, rfl, hbw, fun i hi => ?_⟩, fun n hn => ?_, by simp only [List.length_map, List.length_range]; omega⟩
      · simp only [List.length_map, List.length_range] at hi
        simp only [List.getElem_map, List.getElem_range]
        exact (hV i (by omega)).2
      · simp only [List.mem_map, List.mem_range] at hn
        obtain ⟨i, hi, rfl⟩ := hn
        exact (hV i (by omega)).1

theorem met_cells {fuel : Nat} {cs : List Value} {x : DataW H × List MemPlace} (h : DataW.trod enc Try.prog w 0 (fun _ => true) true fuel 43 cs = some x) :
    ∃ (m : Met) (a : Option Addr) (cap : Nat), m.ints ∧ IntsAt w a w.heap.size m.list ∧ cs = [.int .i64 m.kind, .int .i64 m.a, .int .i64 m.b, .int .i64 m.c, .int .i64 m.d, .string (strOf m.name), .string (strOf m.text), .slice a m.list.length cap] := by
  obtain ⟨xs, n, _, rfl, hl, hlen, hf⟩ := DataW.trod_struct Try.underlying43 h
  rw [cells43] at hl
  match cs, hl, xs, hlen with
  | [c0, c1, c2, c3, c4, c5, c6, c7], _, [y0, y1, y2, y3, y4, y5, y6, y7], _ =>
    have h0 := hf 0 _ rfl
    have h1 := hf 1 _ rfl
    have h2 := hf 2 _ rfl
    have h3 := hf 3 _ rfl
    have h4 := hf 4 _ rfl
    have h5 := hf 5 _ rfl
    have h6 := hf 6 _ rfl
    have h7 := hf 7 _ rfl
    simp only [cells3, cells9, cells41, List.drop_zero, List.drop_succ_cons, List.take_succ_cons, List.take_zero, List.getElem?_cons_zero, List.getElem?_cons_succ] at h0 h1 h2 h3 h4 h5 h6 h7
    obtain ⟨k0, e0, _, w0⟩ := DataW.trod_int Try.underlying3 h0
    obtain ⟨k1, e1, _, w1⟩ := DataW.trod_int Try.underlying3 h1
    obtain ⟨k2, e2, _, w2⟩ := DataW.trod_int Try.underlying3 h2
    obtain ⟨k3, e3, _, w3⟩ := DataW.trod_int Try.underlying3 h3
    obtain ⟨k4, e4, _, w4⟩ := DataW.trod_int Try.underlying3 h4
    obtain ⟨s5, e5, _, w5⟩ := DataW.trod_string Try.underlying9 h5
    obtain ⟨s6, e6, _, w6⟩ := DataW.trod_string Try.underlying9 h6
    simp [cells3, cells9] at e0 e1 e2 e3 e4 e5 e6
    subst e0 e1 e2 e3 e4 e5 e6
    obtain ⟨zs, a, cap, hc7, ha, hz, hm⟩ := ints_in (v := c7) (by simp [cells41]) h7
    subst hc7
    exact ⟨⟨k0, k1, k2, k3, k4, s5.data.toList, s6.data.toList, zs⟩, a, cap, ⟨bounds_i64 w0, bounds_i64 w1, bounds_i64 w2, bounds_i64 w3, bounds_i64 w4, hz, w5, w6, hm⟩, ha, by simp only [strOf_eq]⟩

/-- A record of metadata that came in by value. -/
theorem met_of {v : Value} {d : DataW H} {p : List MemPlace} {cs : Array Value} (hv : v = .agg cs) (h : DataW.Trod enc Try.prog w 0 (fun _ => true) true 43 v d p) :
    ∃ (m : Met) (a : Option Addr) (cap : Nat), m.ints ∧ IntsAt w a w.heap.size m.list ∧ v = .agg #[.int .i64 m.kind, .int .i64 m.a, .int .i64 m.b, .int .i64 m.c, .int .i64 m.d, .string (strOf m.name), .string (strOf m.text), .slice a m.list.length cap] := by
  subst hv
  obtain ⟨fuel, hf⟩ := h
  obtain ⟨m, a, cap, h1, h2, e⟩ := met_cells hf
  refine ⟨m, a, cap, h1, h2, ?_⟩
  have e2 : cs.toList = [.int .i64 m.kind, .int .i64 m.a, .int .i64 m.b, .int .i64 m.c, .int .i64 m.d, .string (strOf m.name), .string (strOf m.text), .slice a m.list.length cap] := by simpa [Value.cells] using e
  rw [← Array.toArray_toList (xs := cs), e2]
end
end Go.Proofs.Ytcmmfmibgnebpaa
