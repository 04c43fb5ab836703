/- A script among the arguments: what its reading says of memory. -/
import Derived.Test.YtpdghpmfacaglaaFrame
import Derived.Test.YtpdghpmfacaglaaErrs
import Derived.Deep.Slices
import Derived.Lib.SmallJoins
namespace Go.Proofs.Ytpdghpmfacaglaa
open Go.ChangeShapes Go.WideShapes Go.ChangeAt Go.RowKit
set_option linter.unusedVariables false
set_option linter.unusedSimpArgs false
set_option maxRecDepth 100000

theorem cells33 : Try.prog.cellsOf 33 = 5 := by kernel_rfl
theorem cells3 : Try.prog.cellsOf 3 = 1 := by kernel_rfl
theorem cells9 : Try.prog.cellsOf 9 = 1 := by kernel_rfl
theorem cells31 : Try.prog.cellsOf 31 = 1 := by kernel_rfl

section
variable {H : Type} {enc : TypeId × Value → H} {w : World} {base : Nat} {spare : Nat → Bool} {held : Bool}

theorem op_of {fuel : Nat} {cs : List Value} {x : DataW H × List MemPlace} (h : DataW.trod enc Try.prog w base spare held fuel 33 cs = some x) :
    ∃ o : OpV, o.ok ∧ cs = [.int .i64 o.kind, .string o.name, .string o.b, .int .i64 o.n, o.keep] := by
  obtain ⟨xs, n, _, rfl, hl, hlen, hf⟩ := DataW.trod_struct Try.underlying33 h
  rw [cells33] at hl
  match cs, hl, xs, hlen with
  | [c0, c1, c2, c3, c4], _, [y0, y1, y2, y3, y4], _ =>
    have h0 := hf 0 _ rfl
    have h1 := hf 1 _ rfl
    have h2 := hf 2 _ rfl
    have h3 := hf 3 _ rfl
    have h4 := hf 4 _ rfl
    simp only [cells3, cells9, cells31, List.drop_zero, List.drop_succ_cons, List.take_succ_cons, List.take_zero, List.getElem?_cons_zero, List.getElem?_cons_succ] at h0 h1 h2 h3 h4
    obtain ⟨k, e0, _, wk⟩ := DataW.trod_int Try.underlying3 h0
    obtain ⟨s1, e1, _, w1⟩ := DataW.trod_string Try.underlying9 h1
    obtain ⟨s2, e2, _, w2⟩ := DataW.trod_string Try.underlying9 h2
    obtain ⟨m, e3, _, wm⟩ := DataW.trod_int Try.underlying3 h3
    have e4 : ∃ oa l c, c4 = .slice oa l c := by
      rcases DataW.trod_slice Try.underlying31 h4 with ⟨e, _⟩ | ⟨a, l, c, _, _, _, _, e, _⟩
      · simp [cells31] at e; exact ⟨_, _, _, e⟩
      · simp [cells31] at e; exact ⟨_, _, _, e⟩
    simp [cells3, cells9] at e0 e1 e2 e3
    subst e0 e1 e2 e3
    exact ⟨⟨k, s1, s2, m, c4⟩, ⟨bounds_i64 wk, w1, w2, e4⟩, rfl⟩

theorem cells5 {a : Addr} {cs : List Value} (h : w.cells? base a 5 = some cs) : ∃ c0 c1 c2 c3 c4, cs = [c0, c1, c2, c3, c4] ∧ w.cell? (a.add 0) = some c0 ∧ w.cell? (a.add 1) = some c1 ∧ w.cell? (a.add 2) = some c2 ∧ w.cell? (a.add 3) = some c3 ∧ w.cell? (a.add 4) = some c4 := by
  unfold World.cells? at h
  split at h
  · rw [show List.range 5 = [0, 1, 2, 3, 4] from rfl] at h
    have step : ∀ (i : Nat) (r : List Nat) (z : List Value), List.mapM (fun i => w.cell? (a.add i)) (i :: r) = some z → ∃ c t, z = c :: t ∧ w.cell? (a.add i) = some c ∧ List.mapM (fun i => w.cell? (a.add i)) r = some t := by
      intro i r z hz
      rw [List.mapM_cons] at hz
      obtain ⟨c, h1, h2⟩ := Option.bind_eq_some_iff.1 hz
      obtain ⟨t, h3, h4⟩ := Option.bind_eq_some_iff.1 h2
      exact ⟨c, t, (Option.some.inj h4).symm, h1, h3⟩
    obtain ⟨c0, t0, rfl, g0, h⟩ := step _ _ _ h
    obtain ⟨c1, t1, rfl, g1, h⟩ := step _ _ _ h
    obtain ⟨c2, t2, rfl, g2, h⟩ := step _ _ _ h
    obtain ⟨c3, t3, rfl, g3, h⟩ := step _ _ _ h
    obtain ⟨c4, t4, rfl, g4, h⟩ := step _ _ _ h
    have e : t4 = [] := by simpa using h.symm
    subst e
    exact ⟨c0, c1, c2, c3, c4, rfl, g0, g1, g2, g3, g4⟩
  · cases h

theorem add_add (b o i j : Nat) : ((⟨b, o, none⟩ : Addr).add i).add j = ⟨b, o + i + j, none⟩ := by
  have h : ∀ o i, (⟨b, o, none⟩ : Addr).add i = ⟨b, o + i, none⟩ := fun o i => by unfold Addr.add; split <;> simp_all
  rw [h, h]

/-- A script that came in. -/
theorem script_of {v : Value} {d : DataW H} {p : List MemPlace} {a : Option Addr} {len cap : Nat} (hv : v = .slice a len cap) (h : DataW.Trod enc Try.prog w 0 (fun _ => true) true 22 v d p) :
    ∃ ops : List OpV, len = ops.length ∧ OpsAt w a ops ∧ len ≤ maxLen := by
  subst hv
  obtain ⟨fuel, hf⟩ := h
  rcases Deep.open_slice Try.underlying22 hf with ⟨hcs, _⟩ | ⟨x, l, c, m, n, D, Pl, hcs, _, hl, hm, hmm, _, hx⟩
  · simp [Value.cells] at hcs
    obtain ⟨rfl, rfl, rfl⟩ := hcs
    exact ⟨[], rfl, .inl rfl, Nat.zero_le _⟩
  · simp [Value.cells] at hcs
    obtain ⟨rfl, rfl, rfl⟩ := hcs
    simp only [if_true] at hmm
    subst hmm
    rw [cells33] at hx
    by_cases h0 : len = 0
    · exact ⟨[], by simpa using h0, .inl rfl, by omega⟩
    · obtain ⟨b, off, spot⟩ := x
      have hspot : spot = none := by
        obtain ⟨cs', h1, _⟩ := hx 0 (by omega)
        obtain ⟨c0, _, _, _, _, _, hc, _⟩ := cells5 h1
        have := World.cell?_spot hc
        simpa [Addr.add] using this
      subst hspot
      have hall : ∀ i, i < m → ∃ o : OpV, o.ok ∧ OpCells w b (off + i * 5) o := fun i hi => by
        obtain ⟨cs', h1, h2⟩ := hx i hi
        obtain ⟨o, ho, rfl⟩ := op_of h2
        obtain ⟨c0, c1, c2, c3, c4, e, g0, g1, g2, g3, g4⟩ := cells5 h1
        simp only [List.cons.injEq, and_true] at e
        obtain ⟨rfl, rfl, rfl, rfl, rfl⟩ := e
        rw [add_add] at g0 g1 g2 g3 g4
        exact ⟨o, ho, g0, g1, g2, g3, g4⟩
      have hbw : b < w.heap.size := by
        obtain ⟨o, ho, hc, _⟩ := hall 0 (by omega)
        exact World.block_lt_of_cell? w _ hc
      have hV : ∃ V : Nat → OpV, ∀ i, i < m → (V i).ok ∧ OpCells w b (off + i * 5) (V i) :=
        ⟨fun i => if hi : i < m then Classical.choose (hall i hi) else ⟨0, ByteArray.empty, ByteArray.empty, 0, .slice none 0 0⟩, fun i hi => by
          simp only [hi, dite_true]
          exact Classical.choose_spec (hall i hi)⟩
      obtain ⟨V, hV⟩ := hV
      refine ⟨(List.range len).map V, by simp, .inr ⟨b, off, rfl, hbw, fun i hi => ?_⟩, by omega⟩
      simp only [List.length_map, List.length_range] at hi
      simp only [List.getElem_map, List.getElem_range]
      exact hV i (by omega)

/-- A call that came in by value. -/
theorem op_arg {v : Value} {d : DataW H} {p : List MemPlace} {cs : Array Value} (hv : v = .agg cs) (h : DataW.Trod enc Try.prog w base spare held 33 v d p) : ∃ o : OpV, o.ok ∧ v = o.val := by
  subst hv
  obtain ⟨fuel, hf⟩ := h
  obtain ⟨o, ho, e⟩ := op_of hf
  refine ⟨o, ho, ?_⟩
  unfold OpV.val
  have e2 : cs.toList = [.int .i64 o.kind, .string o.name, .string o.b, .int .i64 o.n, o.keep] := by simpa [Value.cells] using e
  rw [← Array.toArray_toList (xs := cs), e2]
end
end Go.Proofs.Ytpdghpmfacaglaa
