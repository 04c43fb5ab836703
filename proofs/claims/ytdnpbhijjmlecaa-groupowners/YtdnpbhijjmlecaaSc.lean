/- A script of records among the arguments. -/
import Derived.Test.YtdnpbhijjmlecaaFr
namespace Go.Proofs.Ytdnpbhijjmlecaa
open Go.ChangeShapes Go.WideShapes Go.ChangeAt Go.RowKit
set_option linter.unusedVariables false
set_option linter.unusedSimpArgs false
set_option maxRecDepth 100000

theorem cells32 : Try.prog.cellsOf 32 = 8 := by kernel_rfl
theorem ocells9 : Try.prog.cellsOf 9 = 1 := by kernel_rfl
/-- A record in memory. -/
def RecC (w : World) (b o : Nat) (x : Rc) : Prop := ∃ la lc, w.cell? ⟨b, o, none⟩ = some (.int .i64 x.kind) ∧ w.cell? ⟨b, o + 1, none⟩ = some (.int .i64 x.a) ∧ w.cell? ⟨b, o + 2, none⟩ = some (.int .i64 x.b) ∧ w.cell? ⟨b, o + 3, none⟩ = some (.int .i64 x.c) ∧ w.cell? ⟨b, o + 4, none⟩ = some (.int .i64 x.d) ∧
  w.cell? ⟨b, o + 5, none⟩ = some (.string x.name) ∧ w.cell? ⟨b, o + 6, none⟩ = some (.string x.text) ∧ w.cell? ⟨b, o + 7, none⟩ = some (.slice la x.list.length lc) ∧ IL w (.slice la x.list.length lc) x.list ∧ RcOk x ∧ x.name.size ≤ maxLen
theorem RecC.under {w w' : World} {b o : Nat} {x : Rc} (h : RecC w b o x) (hb : Below w.heap.size w w') : RecC w' b o x := by
  obtain ⟨la, lc, h0, h1, h2, h3, h4, h5, h6, h7, h8, h9⟩ := h
  exact ⟨la, lc, kept_cell hb h0, kept_cell hb h1, kept_cell hb h2, kept_cell hb h3, kept_cell hb h4, kept_cell hb h5, kept_cell hb h6, kept_cell hb h7, h8.under hb, h9⟩
/-- A script in memory. -/
structure Script (w : World) (v : Value) (ops : List Rc) : Prop where
  shape : ∃ so cap, v = .slice so ops.length cap ∧ (ops ≠ [] → ∃ b off, so = some ⟨b, off, none⟩ ∧ ∀ i (hi : i < ops.length), RecC w b (off + i * 8) ops[i])
  len : ops.length ≤ maxLen

section
variable {H : Type} {enc : TypeId × Value → H} {w : World}
theorem weightsAll_mem {e : TypeId} : ∀ {l : List (DataW H)} {d : DataW H}, d ∈ l → ∀ n ∈ d.weights Try.prog e, n ∈ DataW.weightsAll Try.prog e l
  | x :: r, d, hd, n, hn => by
    simp only [DataW.weightsAll, List.mem_append]
    rcases List.mem_cons.1 hd with rfl | h
    · exact .inl hn
    · exact .inr (weightsAll_mem h n hn)
theorem light_rec {xs : List (DataW H × List MemPlace)} (hw : Light 32 (.agg (xs.map (·.1)) : DataW H)) (j : Nat) (t : TypeId) (ht : ([3, 3, 3, 3, 3, 9, 9, 30] : List TypeId)[j]? = some t) (y : DataW H × List MemPlace) (hy : xs[j]? = some y) : Light t y.1 := by
  intro n hn
  refine hw n ?_
  have e : (DataW.agg (xs.map (·.1)) : DataW H).weights Try.prog 32 = DataW.weightsEach Try.prog [3, 3, 3, 3, 3, 9, 9, 30] (xs.map (·.1)) := by
    simp only [DataW.weights, Try.underlying32]; rfl
  rw [e]
  exact DataW.weights_mem_each ht (by simp [hy]) n hn
theorem rec_of {fuel : Nat} {cs : List Value} {x : DataW H × List MemPlace} (h : DataW.trod enc Try.prog w 0 (fun _ => true) true fuel 32 cs = some x) (hw : Light 32 x.1) :
    ∃ (o : Rc) (la : Option Addr) (lc : Nat), cs = [.int .i64 o.kind, .int .i64 o.a, .int .i64 o.b, .int .i64 o.c, .int .i64 o.d, .string o.name, .string o.text, .slice la o.list.length lc] ∧ IL w (.slice la o.list.length lc) o.list ∧ RcOk o ∧ o.name.size ≤ maxLen := by
  obtain ⟨xs, n, _, rfl, hl, hlen, hf⟩ := DataW.trod_struct Try.underlying32 h
  rw [cells32] at hl
  match cs, hl, xs, hlen with
  | [c0, c1, c2, c3, c4, c5, c6, c7], _, [y0, y1, y2, y3, y4, y5, y6, y7], _ =>
    have h0 := hf 0 _ rfl
    have h1 := hf 1 _ rfl
    have h2 := hf 2 _ rfl
    have h3 := hf 3 _ rfl
    have h4 := hf 4 _ rfl
    have h5 := hf 5 _ rfl
    have h6 := hf 6 _ rfl
    have h7 := hf 7 _ rfl
    simp only [ocells3, ocells9, ocells30, List.drop_zero, List.drop_succ_cons, List.take_succ_cons, List.take_zero, List.getElem?_cons_zero, List.getElem?_cons_succ] at h0 h1 h2 h3 h4 h5 h6 h7
    obtain ⟨s0, e0, _, w0⟩ := DataW.trod_int Try.underlying3 h0
    obtain ⟨s1, e1, _, w1⟩ := DataW.trod_int Try.underlying3 h1
    obtain ⟨s2, e2, _, w2⟩ := DataW.trod_int Try.underlying3 h2
    obtain ⟨s3, e3, _, w3⟩ := DataW.trod_int Try.underlying3 h3
    obtain ⟨s4, e4, _, w4⟩ := DataW.trod_int Try.underlying3 h4
    obtain ⟨s5, e5, _, w5⟩ := DataW.trod_string Try.underlying9 h5
    obtain ⟨s6, e6, _, w6⟩ := DataW.trod_string Try.underlying9 h6
    obtain ⟨a7, l7, k7, e7, i7⟩ := list_of h7 (light_rec hw 7 30 rfl _ rfl)
    simp [ocells3, ocells9, ocells30] at e0 e1 e2 e3 e4 e5 e6 e7
    subst e0 e1 e2 e3 e4 e5 e6 e7
    exact ⟨⟨s0, s1, s2, s3, s4, s5, s6, l7⟩, a7, k7, rfl, i7, ⟨bounds_i64 w0, bounds_i64 w1, bounds_i64 w2, bounds_i64 w3, bounds_i64 w4⟩, by simpa [Lit.wf] using w5⟩
theorem cellsUp {base : Nat} {a : Addr} {n : Nat} {cs : List Value} (h : w.cells? base a n = some cs) : cs.length = n ∧ ∀ (i : Nat) (c : Value), cs[i]? = some c → w.cell? (a.add i) = some c := by
  unfold World.cells? at h
  split at h
  · have step : ∀ (r : List Nat) (z : List Value), List.mapM (fun i => w.cell? (a.add i)) r = some z → z.length = r.length ∧ ∀ (i j : Nat) (c : Value), r[i]? = some j → z[i]? = some c → w.cell? (a.add j) = some c := by
      intro r
      induction r with
      | nil => intro z hz; have e : z = [] := by simpa using hz.symm
               subst e; exact ⟨rfl, fun i j c hi => by simp at hi⟩
      | cons x r ih =>
        intro z hz
        rw [List.mapM_cons] at hz
        obtain ⟨c, h1, h2⟩ := Option.bind_eq_some_iff.1 hz
        obtain ⟨t, h3, h4⟩ := Option.bind_eq_some_iff.1 h2
        have e : z = c :: t := (Option.some.inj h4).symm
        subst e
        obtain ⟨i1, i2⟩ := ih t h3
        refine ⟨by simp [i1], fun i j d hi hd => ?_⟩
        cases i with
        | zero => simp at hi hd; subst hi; subst hd; exact h1
        | succ i => exact i2 i j d (by simpa using hi) (by simpa using hd)
    obtain ⟨s1, s2⟩ := step _ _ h
    refine ⟨by simpa using s1, fun i c hi => s2 i i c ?_ hi⟩
    have := (List.getElem?_eq_some_iff.1 hi).1
    rw [s1] at this
    rw [List.getElem?_range (by simpa using this)]
  · cases h
theorem add_add (b o i j : Nat) : ((⟨b, o, none⟩ : Addr).add i).add j = ⟨b, o + i + j, none⟩ := by rw [add_at, add_at]
/-- A script among the arguments. -/
theorem script_of {v : Value} {d : DataW H} {p : List MemPlace} {a : Option Addr} {len cap : Nat} (hv : v = .slice a len cap) (h : DataW.Trod enc Try.prog w 0 (fun _ => true) true 22 v d p) (hw : Light 22 d) : ∃ ops : List Rc, Script w v ops := by
  subst hv
  obtain ⟨fuel, hf⟩ := h
  rcases Deep.open_slice Try.underlying22 hf with ⟨hcs, _⟩ | ⟨x, l, c, m, n, D, Pl, hcs, _, hl, hm, hmm, hx2, hx⟩
  · simp [Value.cells] at hcs
    obtain ⟨rfl, rfl, rfl⟩ := hcs
    exact ⟨[], ⟨none, 0, rfl, fun h => absurd rfl h⟩, Nat.zero_le _⟩
  · simp [Value.cells] at hcs
    obtain ⟨rfl, rfl, rfl⟩ := hcs
    simp only [if_true] at hmm
    subst hmm
    have hd : d = .slice ((List.range len).map D) ((List.range (m - len)).map fun j => D (len + j)) := congrArg Prod.fst hx2
    have hlt : ∀ i, i < len → Light 32 (D i) := fun i hi k hk => by
      refine hw k ?_
      rw [hd]
      simp only [DataW.weights, Try.underlying22, List.mem_cons, List.mem_append]
      exact .inr (.inl (weightsAll_mem (List.mem_map.2 ⟨i, List.mem_range.2 hi, rfl⟩) k hk))
    rw [cells32] at hx
    by_cases h0 : len = 0
    · subst h0
      exact ⟨[], ⟨some x, m, rfl, fun h => absurd rfl h⟩, Nat.zero_le _⟩
    · obtain ⟨b, off, spot⟩ := x
      have hspot : spot = none := by
        obtain ⟨cs', h1, h2⟩ := hx 0 (by omega)
        obtain ⟨o, la, lc, rfl, _⟩ := rec_of h2 (hlt 0 (by omega))
        have hc := (cellsUp h1).2 0 _ rfl
        have := World.cell?_spot hc
        simpa [Addr.add] using this
      subst hspot
      have hall : ∀ i, i < len → ∃ o : Rc, RecC w b (off + i * 8) o := fun i hi => by
        obtain ⟨cs', h1, h2⟩ := hx i (by omega)
        obtain ⟨o, la, lc, rfl, j1, j2, j3⟩ := rec_of h2 (hlt i hi)
        have hc := (cellsUp h1).2
        have g0 := hc 0 _ rfl
        have g1 := hc 1 _ rfl
        have g2 := hc 2 _ rfl
        have g3 := hc 3 _ rfl
        have g4 := hc 4 _ rfl
        have g5 := hc 5 _ rfl
        have g6 := hc 6 _ rfl
        have g7 := hc 7 _ rfl
        rw [add_add] at g0 g1 g2 g3 g4 g5 g6 g7
        exact ⟨o, la, lc, g0, g1, g2, g3, g4, g5, g6, g7, j1, j2, j3⟩
      have hV : ∃ V : Nat → Rc, ∀ i, i < len → RecC w b (off + i * 8) (V i) :=
        ⟨fun i => if hi : i < len then Classical.choose (hall i hi) else ⟨0, 0, 0, 0, 0, ⟨#[]⟩, ⟨#[]⟩, []⟩, fun i hi => by
          simp only [hi, dite_true]
          exact Classical.choose_spec (hall i hi)⟩
      obtain ⟨V, hV⟩ := hV
      refine ⟨(List.range len).map V, ⟨some ⟨b, off, none⟩, m, by simp, fun _ => ⟨b, off, rfl, fun i hi => ?_⟩⟩, by simp; omega⟩
      simp only [List.length_map, List.length_range] at hi
      simp only [List.getElem_map, List.getElem_range]
      exact hV i (by omega)
end
end Go.Proofs.Ytdnpbhijjmlecaa
