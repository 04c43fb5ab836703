/- A script of calls among the arguments. -/
import Derived.Test.YtfahepeemodcbaaM16
import Derived.Test.YtfahepeemodcbaaFr
namespace Go.Proofs.Ytfahepeemodcbaa
open Go.ChangeShapes Go.WideShapes Go.ChangeAt Go.RowKit
set_option linter.unusedVariables false
set_option linter.unusedSimpArgs false
set_option maxRecDepth 100000

/-- A call in memory. -/
def OpC (w : World) (b o : Nat) (x : Opn) : Prop := ∃ la lc ua uc, w.cell? ⟨b, o, none⟩ = some (.int .i64 x.kind) ∧ w.cell? ⟨b, o + 1, none⟩ = some (.int .i64 x.a) ∧ w.cell? ⟨b, o + 2, none⟩ = some (.int .i64 x.b) ∧ w.cell? ⟨b, o + 3, none⟩ = some (.int .i64 x.c) ∧
  w.cell? ⟨b, o + 4, none⟩ = some (.slice la x.l.length lc) ∧ w.cell? ⟨b, o + 5, none⟩ = some (.slice ua x.up.length uc) ∧ IL w (.slice la x.l.length lc) x.l ∧ IL w (.slice ua x.up.length uc) x.up ∧ I64 x.kind ∧ I64 x.a ∧ I64 x.b ∧ I64 x.c
theorem OpC.under {w w' : World} {b o : Nat} {x : Opn} (h : OpC w b o x) (hb : Below w.heap.size w w') : OpC w' b o x := by
  obtain ⟨la, lc, ua, uc, h0, h1, h2, h3, h4, h5, h6, h7, h8⟩ := h
  exact ⟨la, lc, ua, uc, kept_cell hb h0, kept_cell hb h1, kept_cell hb h2, kept_cell hb h3, kept_cell hb h4, kept_cell hb h5, h6.under hb, h7.under hb, h8⟩
/-- A script in memory. -/
structure Script (w : World) (v : Value) (ops : List Opn) : Prop where
  shape : ∃ so cap, v = .slice so ops.length cap ∧ (ops ≠ [] → ∃ b off, so = some ⟨b, off, none⟩ ∧ ∀ i (hi : i < ops.length), OpC w b (off + i * 6) ops[i])
  len : ops.length ≤ maxLen

section
variable {H : Type} {enc : TypeId × Value → H} {w : World}
theorem weightsAll_mem {e : TypeId} : ∀ {l : List (DataW H)} {d : DataW H}, d ∈ l → ∀ n ∈ d.weights Try.prog e, n ∈ DataW.weightsAll Try.prog e l
  | x :: r, d, hd, n, hn => by
    simp only [DataW.weightsAll, List.mem_append]
    rcases List.mem_cons.1 hd with rfl | h
    · exact .inl hn
    · exact .inr (weightsAll_mem h n hn)
theorem light_op {xs : List (DataW H × List MemPlace)} (hw : Light 26 (.agg (xs.map (·.1)) : DataW H)) (j : Nat) (t : TypeId) (ht : ([3, 3, 3, 3, 22, 22] : List TypeId)[j]? = some t) (y : DataW H × List MemPlace) (hy : xs[j]? = some y) : Light t y.1 := by
  intro n hn
  refine hw n ?_
  have e : (DataW.agg (xs.map (·.1)) : DataW H).weights Try.prog 26 = DataW.weightsEach Try.prog [3, 3, 3, 3, 22, 22] (xs.map (·.1)) := by
    simp only [DataW.weights, Try.underlying26]; rfl
  rw [e]
  exact DataW.weights_mem_each ht (by simp [hy]) n hn
theorem op_of {fuel : Nat} {cs : List Value} {x : DataW H × List MemPlace} (h : DataW.trod enc Try.prog w 0 (fun _ => true) true fuel 26 cs = some x) (hw : Light 26 x.1) :
    ∃ (o : Opn) (la : Option Addr) (lc : Nat) (ua : Option Addr) (uc : Nat), cs = [.int .i64 o.kind, .int .i64 o.a, .int .i64 o.b, .int .i64 o.c, .slice la o.l.length lc, .slice ua o.up.length uc] ∧ IL w (.slice la o.l.length lc) o.l ∧ IL w (.slice ua o.up.length uc) o.up ∧ I64 o.kind ∧ I64 o.a ∧ I64 o.b ∧ I64 o.c := by
  obtain ⟨xs, n, _, rfl, hl, hlen, hf⟩ := DataW.trod_struct Try.underlying26 h
  rw [cells26] at hl
  match cs, hl, xs, hlen with
  | [c0, c1, c2, c3, c4, c5], _, [y0, y1, y2, y3, y4, y5], _ =>
    have h0 := hf 0 _ rfl
    have h1 := hf 1 _ rfl
    have h2 := hf 2 _ rfl
    have h3 := hf 3 _ rfl
    have h4 := hf 4 _ rfl
    have h5 := hf 5 _ rfl
    simp only [ocells3, ocells22, List.drop_zero, List.drop_succ_cons, List.take_succ_cons, List.take_zero, List.getElem?_cons_zero, List.getElem?_cons_succ] at h0 h1 h2 h3 h4 h5
    obtain ⟨s0, e0, _, w0⟩ := DataW.trod_int Try.underlying3 h0
    obtain ⟨s1, e1, _, w1⟩ := DataW.trod_int Try.underlying3 h1
    obtain ⟨s2, e2, _, w2⟩ := DataW.trod_int Try.underlying3 h2
    obtain ⟨s3, e3, _, w3⟩ := DataW.trod_int Try.underlying3 h3
    obtain ⟨a4, l4, k4, e4, i4⟩ := list_of h4 (light_op hw 4 22 rfl _ rfl)
    obtain ⟨a5, l5, k5, e5, i5⟩ := list_of h5 (light_op hw 5 22 rfl _ rfl)
    simp [ocells3, ocells22] at e0 e1 e2 e3 e4 e5
    subst e0 e1 e2 e3 e4 e5
    exact ⟨⟨s0, s1, s2, s3, l4, l5⟩, a4, k4, a5, k5, rfl, i4, i5, bounds_i64 w0, bounds_i64 w1, bounds_i64 w2, bounds_i64 w3⟩
/-- A call among the arguments. -/
theorem call_of {v : Value} {d : DataW H} {p : List MemPlace} {cs : Array Value} (hv : v = .agg cs) (h : DataW.Trod enc Try.prog w 0 (fun _ => true) true 26 v d p) (hw : Light 26 d) : ∃ o : Opn, OpM w v o := by
  subst hv
  obtain ⟨fuel, hf⟩ := h
  obtain ⟨o, la, lc, ua, uc, e, h1, h2, h3⟩ := op_of hf hw
  refine ⟨o, _, _, ?_, h1, h2, h3⟩
  have e2 : cs.toList = [.int .i64 o.kind, .int .i64 o.a, .int .i64 o.b, .int .i64 o.c, .slice la o.l.length lc, .slice ua o.up.length uc] := by simpa [Value.cells] using e
  rw [← Array.toArray_toList (xs := cs), e2]
theorem cellsUp {base : Nat} {a : Addr} {n : Nat} {cs : List Value} (h : w.cells? base a n = some cs) : cs.length = n ∧ ∀ (i : Nat) (c : Value), cs[i]? = some c → w.cell? (a.add i) = some c := by
  unfold World.cells? at h
  split at h
  · have step : ∀ (r : List Nat) (z : List Value), List.mapM (fun i => w.cell? (a.add i)) r = some z → z.length = r.length ∧ ∀ (i j : Nat) (c : Value), r[i]? = some j → z[i]? = some c → w.cell? (a.add j) = some c := by
      intro r
      induction r with
      | nil => intro z hz; have e : z = [] := by simpa using hz.symm
               subst e; exact ⟨rfl, fun i j c hi => by simp at hi⟩
      | cons x r ih =>
        intro z hz
        rw [List.mapM_cons] at hz
        obtain ⟨c, h1, h2⟩ := Option.bind_eq_some_iff.1 hz
        obtain ⟨t, h3, h4⟩ := Option.bind_eq_some_iff.1 h2
        have e : z = c :: t := (Option.some.inj h4).symm
        subst e
        obtain ⟨i1, i2⟩ := ih t h3
        refine ⟨by simp [i1], fun i j d hi hd => ?_⟩
        cases i with
        | zero => simp at hi hd; subst hi; subst hd; exact h1
        | succ i => exact i2 i j d (by simpa using hi) (by simpa using hd)
    obtain ⟨s1, s2⟩ := step _ _ h
    refine ⟨by simpa using s1, fun i c hi => s2 i i c ?_ hi⟩
    have := (List.getElem?_eq_some_iff.1 hi).1
    rw [s1] at this
    rw [List.getElem?_range (by simpa using this)]
  · cases h
theorem add_add (b o i j : Nat) : ((⟨b, o, none⟩ : Addr).add i).add j = ⟨b, o + i + j, none⟩ := by rw [add_at, add_at]
/-- A script among the arguments. -/
theorem script_of {v : Value} {d : DataW H} {p : List MemPlace} {a : Option Addr} {len cap : Nat} (hv : v = .slice a len cap) (h : DataW.Trod enc Try.prog w 0 (fun _ => true) true 35 v d p) (hw : Light 35 d) : ∃ ops : List Opn, Script w v ops := by
  subst hv
  obtain ⟨fuel, hf⟩ := h
  rcases Deep.open_slice Try.underlying35 hf with ⟨hcs, _⟩ | ⟨x, l, c, m, n, D, Pl, hcs, _, hl, hm, hmm, hx2, hx⟩
  · simp [Value.cells] at hcs
    obtain ⟨rfl, rfl, rfl⟩ := hcs
    exact ⟨[], ⟨none, 0, rfl, fun h => absurd rfl h⟩, Nat.zero_le _⟩
  · simp [Value.cells] at hcs
    obtain ⟨rfl, rfl, rfl⟩ := hcs
    simp only [if_true] at hmm
    subst hmm
    have hd : d = .slice ((List.range len).map D) ((List.range (m - len)).map fun j => D (len + j)) := congrArg Prod.fst hx2
    have hlt : ∀ i, i < len → Light 26 (D i) := fun i hi k hk => by
      refine hw k ?_
      rw [hd]
      simp only [DataW.weights, Try.underlying35, List.mem_cons, List.mem_append]
      exact .inr (.inl (weightsAll_mem (List.mem_map.2 ⟨i, List.mem_range.2 hi, rfl⟩) k hk))
    rw [cells26] at hx
    by_cases h0 : len = 0
    · subst h0
      exact ⟨[], ⟨some x, m, rfl, fun h => absurd rfl h⟩, Nat.zero_le _⟩
    · obtain ⟨b, off, spot⟩ := x
      have hspot : spot = none := by
        obtain ⟨cs', h1, h2⟩ := hx 0 (by omega)
        obtain ⟨o, la, lc, ua, uc, rfl, _⟩ := op_of h2 (hlt 0 (by omega))
        have hc := (cellsUp h1).2 0 _ rfl
        have := World.cell?_spot hc
        simpa [Addr.add] using this
      subst hspot
      have hall : ∀ i, i < len → ∃ o : Opn, OpC w b (off + i * 6) o := fun i hi => by
        obtain ⟨cs', h1, h2⟩ := hx i (by omega)
        obtain ⟨o, la, lc, ua, uc, rfl, j1, j2, j3⟩ := op_of h2 (hlt i hi)
        have hc := (cellsUp h1).2
        have g0 := hc 0 _ rfl
        have g1 := hc 1 _ rfl
        have g2 := hc 2 _ rfl
        have g3 := hc 3 _ rfl
        have g4 := hc 4 _ rfl
        have g5 := hc 5 _ rfl
        rw [add_add] at g0 g1 g2 g3 g4 g5
        exact ⟨o, la, lc, ua, uc, g0, g1, g2, g3, g4, g5, j1, j2, j3⟩
      have hV : ∃ V : Nat → Opn, ∀ i, i < len → OpC w b (off + i * 6) (V i) :=
        ⟨fun i => if hi : i < len then Classical.choose (hall i hi) else ⟨0, 0, 0, 0, [], []⟩, fun i hi => by
          simp only [hi, dite_true]
          exact Classical.choose_spec (hall i hi)⟩
      obtain ⟨V, hV⟩ := hV
      refine ⟨(List.range len).map V, ⟨some ⟨b, off, none⟩, m, by simp, fun _ => ⟨b, off, rfl, fun i hi => ?_⟩⟩, by simp; omega⟩
      simp only [List.length_map, List.length_range] at hi
      simp only [List.getElem_map, List.getElem_range]
      exact hV i (by omega)
end
end Go.Proofs.Ytfahepeemodcbaa
