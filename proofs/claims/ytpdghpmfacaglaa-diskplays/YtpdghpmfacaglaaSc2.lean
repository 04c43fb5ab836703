/- A script that came in, with the numbers of its crashes. -/
import Derived.Test.YtpdghpmfacaglaaScript
import Derived.Test.YtpdghpmfacaglaaFrame
namespace Go.Proofs.Ytpdghpmfacaglaa
open Go.ChangeShapes Go.WideShapes Go.ChangeAt Go.RowKit
set_option linter.unusedSimpArgs false
set_option linter.unusedVariables false
set_option maxRecDepth 100000

/-- A list of numbers within a call. -/
def KeepAt (w : World) (v : Value) : Prop := ∃ oa ks kc, v = .slice oa (ks : List Int).length kc ∧ IntsAt w oa ks ∧ ks.length ≤ maxLen ∧ (ks ≠ [] → ∀ b off, oa = some ⟨b, off, none⟩ → b < w.heap.size)
section
variable {H : Type} {enc : TypeId × Value → H} {w : World}
theorem op_keep {fuel : Nat} {cs : List Value} {x : DataW H × List MemPlace} (h : DataW.trod enc Try.prog w 0 (fun _ => true) true fuel 33 cs = some x) :
    ∃ o : OpV, o.ok ∧ cs = [.int .i64 o.kind, .string o.name, .string o.b, .int .i64 o.n, o.keep] ∧ KeepAt w o.keep := by
  obtain ⟨xs, n, _, rfl, hl, hlen, hf⟩ := DataW.trod_struct Try.underlying33 h
  rw [cells33] at hl
  match cs, hl, xs, hlen with
  | [c0, c1, c2, c3, c4], _, [y0, y1, y2, y3, y4], _ =>
    have h0 := hf 0 _ rfl
    have h1 := hf 1 _ rfl
    have h2 := hf 2 _ rfl
    have h3 := hf 3 _ rfl
    have h4 := hf 4 _ rfl
    simp only [cells3, cells9, cells31, List.drop_zero, List.drop_succ_cons, List.take_succ_cons, List.take_zero, List.getElem?_cons_zero, List.getElem?_cons_succ] at h0 h1 h2 h3 h4
    obtain ⟨k, e0, _, wk⟩ := DataW.trod_int Try.underlying3 h0
    obtain ⟨s1, e1, _, w1⟩ := DataW.trod_string Try.underlying9 h1
    obtain ⟨s2, e2, _, w2⟩ := DataW.trod_string Try.underlying9 h2
    obtain ⟨m, e3, _, wm⟩ := DataW.trod_int Try.underlying3 h3
    have e4 : ∃ oa l c zs, c4 = .slice oa l c ∧ IsRow .i64 w oa l c zs := by
      rcases open_ints Try.underlying31 Try.underlying3 (by kernel_rfl) h4 with ⟨e, _⟩ | ⟨a, l, c, zs, e, _, hl, hm, hz, _, hcell, hwz⟩
      · simp [cells31] at e; exact ⟨_, _, _, [], e, .inl ⟨rfl, rfl, rfl, rfl⟩⟩
      · simp [cells31] at e; exact ⟨_, _, _, zs, e, .inr ⟨a, rfl, hl, hm, by simpa using hz, hcell, hwz⟩⟩
    simp [cells3, cells9] at e0 e1 e2 e3
    subst e0 e1 e2 e3
    obtain ⟨oa, l, c, zs, rfl, hrow⟩ := e4
    obtain ⟨ks, rfl, hks, hkb⟩ := hrow.ints
    exact ⟨⟨k, s1, s2, m, .slice oa ks.length c⟩, ⟨bounds_i64 wk, w1, w2, ⟨_, _, _, rfl⟩⟩, rfl, oa, ks, c, rfl, hks, hrow.len_le, hkb⟩

/-- A script that came in. -/
theorem script_keep {v : Value} {d : DataW H} {p : List MemPlace} {a : Option Addr} {len cap : Nat} (hv : v = .slice a len cap) (h : DataW.Trod enc Try.prog w 0 (fun _ => true) true 22 v d p) :
    ∃ ops : List OpV, len = ops.length ∧ OpsAt w a ops ∧ len ≤ maxLen ∧ ∀ i (hi : i < ops.length), KeepAt w ops[i].keep := by
  subst hv
  obtain ⟨fuel, hf⟩ := h
  rcases Deep.open_slice Try.underlying22 hf with ⟨hcs, _⟩ | ⟨x, l, c, m, n, D, Pl, hcs, _, hl, hm, hmm, _, hx⟩
  · simp [Value.cells] at hcs
    obtain ⟨rfl, rfl, rfl⟩ := hcs
    exact ⟨[], rfl, .inl rfl, Nat.zero_le _, fun i hi => by simp at hi⟩
  · simp [Value.cells] at hcs
    obtain ⟨rfl, rfl, rfl⟩ := hcs
    simp only [if_true] at hmm
    subst hmm
    rw [cells33] at hx
    by_cases h0 : len = 0
    · exact ⟨[], by simpa using h0, .inl rfl, by omega, fun i hi => by simp at hi⟩
    · obtain ⟨b, off, spot⟩ := x
      have hspot : spot = none := by
        obtain ⟨cs', h1, _⟩ := hx 0 (by omega)
        obtain ⟨c0, _, _, _, _, _, hc, _⟩ := cells5 h1
        have := World.cell?_spot hc
        simpa [Addr.add] using this
      subst hspot
      have hall : ∀ i, i < m → ∃ o : OpV, (o.ok ∧ KeepAt w o.keep) ∧ OpCells w b (off + i * 5) o := fun i hi => by
        obtain ⟨cs', h1, h2⟩ := hx i hi
        obtain ⟨o, ho, rfl, hkp⟩ := op_keep h2
        obtain ⟨c0, c1, c2, c3, c4, e, g0, g1, g2, g3, g4⟩ := cells5 h1
        simp only [List.cons.injEq, and_true] at e
        obtain ⟨rfl, rfl, rfl, rfl, rfl⟩ := e
        rw [add_add] at g0 g1 g2 g3 g4
        exact ⟨o, ⟨ho, hkp⟩, g0, g1, g2, g3, g4⟩
      have hbw : b < w.heap.size := by
        obtain ⟨o, ho, hc, _⟩ := hall 0 (by omega)
        exact World.block_lt_of_cell? w _ hc
      have hV : ∃ V : Nat → OpV, ∀ i, i < m → ((V i).ok ∧ KeepAt w (V i).keep) ∧ OpCells w b (off + i * 5) (V i) :=
        ⟨fun i => if hi : i < m then Classical.choose (hall i hi) else ⟨0, ByteArray.empty, ByteArray.empty, 0, .slice none 0 0⟩, fun i hi => by
          simp only [hi, dite_true]
          exact Classical.choose_spec (hall i hi)⟩
      obtain ⟨V, hV⟩ := hV
      refine ⟨(List.range len).map V, by simp, .inr ⟨b, off, rfl, hbw, fun i hi => ?_⟩, by omega, fun i hi => ?_⟩
      · simp only [List.length_map, List.length_range] at hi
        simp only [List.getElem_map, List.getElem_range]
        exact ⟨(hV i (by omega)).1.1, (hV i (by omega)).2⟩
      · simp only [List.length_map, List.length_range] at hi
        simp only [List.getElem_map, List.getElem_range]
        exact (hV i (by omega)).1.2
end
end Go.Proofs.Ytpdghpmfacaglaa
