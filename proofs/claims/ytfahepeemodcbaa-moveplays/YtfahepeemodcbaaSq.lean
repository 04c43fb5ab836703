/- A state, a list, a script among the arguments. -/
import Derived.Test.YtfahepeemodcbaaM13
import Derived.ProofKit
import Derived.OpenShut
import Derived.ShutString
import Derived.ChangeOld
import Derived.SliceStrings
import Derived.SizedLaws
import Derived.Deep.Slices
import Derived.Lib.SmallJoins
import Derived.Test.YtfahepeemodcbaaM16
namespace Go.Proofs.Ytfahepeemodcbaa
open Go.ChangeShapes Go.WideShapes Go.ChangeAt Go.RowKit
set_option linter.unusedVariables false
set_option linter.unusedSimpArgs false
set_option maxRecDepth 100000

theorem own : ownKnob Try.prog.godebug = none := by kernel_rfl
theorem laidOut : laidOutB Try.prog = true := by kernel_rfl
theorem cells24 : Try.prog.cellsOf 24 = 9 := by kernel_rfl
theorem cells26 : Try.prog.cellsOf 26 = 6 := by kernel_rfl
theorem ocells3 : Try.prog.cellsOf 3 = 1 := by kernel_rfl
theorem ocells22 : Try.prog.cellsOf 22 = 1 := by kernel_rfl
theorem obytes3 : Try.prog.bytesOf 3 = 8 := by kernel_rfl

/-- No data of it is too great. -/
def Light {H : Type} (t : TypeId) (d : DataW H) : Prop := ∀ n ∈ d.weights Try.prog t, n ≤ reachBytes

section
variable {H : Type} {enc : TypeId × Value → H} {w : World}

theorem list_of {fuel : Nat} {cs : List Value} {x : DataW H × List MemPlace} (h : DataW.trod enc Try.prog w 0 (fun _ => true) true fuel 22 cs = some x) (hw : Light 22 x.1) :
    ∃ a l c, cs = [.slice a (List.length l) c] ∧ IL w (.slice a (List.length l) c) l := by
  rcases open_ints Try.underlying22 Try.underlying3 (by kernel_rfl) h with ⟨rfl, _⟩ | ⟨x0, len, cap, zs, rfl, _, hl, hm, hz, rfl, hcell, hwz⟩
  · exact ⟨none, [], 0, rfl, IL.nil _⟩
  · simp only [if_true] at hz
    have hlen : (zs.take len).length = len := by rw [List.length_take]; omega
    have hwt : cap * 8 ≤ reachBytes := by
      have := hw (((lits (H := H) .i64 (zs.take len)).length + (lits (H := H) .i64 (zs.drop len)).length) * Try.prog.bytesOf 3) (by simp [DataW.weights, Try.underlying22])
      rw [obytes3] at this
      simp only [lits, List.length_map, List.length_take, List.length_drop] at this
      have e : min len zs.length + (zs.length - len) = cap := by omega
      rw [e] at this
      exact this
    refine ⟨some x0, zs.take len, cap, by rw [hlen], ?_⟩
    refine ⟨⟨some x0, cap, rfl, by omega, hm, (fun h => by cases h), fun hne => ?_⟩, fun n hn => ?_, ?_⟩
    · obtain ⟨b, off, spot⟩ := x0
      have h0 : 0 < zs.length := by
        rcases Nat.eq_zero_or_pos zs.length with h | h
        · exact absurd (by rw [List.eq_nil_of_length_eq_zero h]; simp) hne
        · exact h
      have hc := hcell 0 h0
      cases spot with
      | some sp =>
        exfalso
        simp [World.cell?, Addr.add] at hc
        split at hc <;> simp_all
      | none =>
        refine ⟨b, off, rfl, World.block_lt_of_cell? w _ hc, fun j hj => ?_⟩
        have hjz : j < zs.length := by rw [List.length_take] at hj; omega
        have h2 := hcell j hjz
        have e : (zs.take len)[j] = zs.getD j 0 := by simp [List.getD, hjz]
        rw [add_at] at h2
        rw [e]
        exact h2
    · exact bounds_i64 (hwz n (List.mem_of_mem_take hn))
    · rw [hlen]
      unfold reachBytes at hwt
      omega

theorem light_part {xs : List (DataW H × List MemPlace)} (hw : Light 24 (.agg (xs.map (·.1)) : DataW H)) (j : Nat) (t : TypeId) (ht : ([3, 3, 3, 3, 22, 22, 22, 22, 3] : List TypeId)[j]? = some t) (y : DataW H × List MemPlace) (hy : xs[j]? = some y) : Light t y.1 := by
  intro n hn
  refine hw n ?_
  have e : (DataW.agg (xs.map (·.1)) : DataW H).weights Try.prog 24 = DataW.weightsEach Try.prog [3, 3, 3, 3, 22, 22, 22, 22, 3] (xs.map (·.1)) := by
    simp only [DataW.weights, Try.underlying24]; rfl
  rw [e]
  exact DataW.weights_mem_each ht (by simp [hy]) n hn
theorem part_of {fuel : Nat} {cs : List Value} {x : DataW H × List MemPlace} (h : DataW.trod enc Try.prog w 0 (fun _ => true) true fuel 24 cs = some x) (hw : Light 24 x.1) :
    ∃ p : Pt, PartM w (.agg cs.toArray) p := by
  obtain ⟨xs, n, _, rfl, hl, hlen, hf⟩ := DataW.trod_struct Try.underlying24 h
  rw [cells24] at hl
  match cs, hl, xs, hlen with
  | [c0, c1, c2, c3, c4, c5, c6, c7, c8], _, [y0, y1, y2, y3, y4, y5, y6, y7, y8], _ =>
    have h0 := hf 0 _ rfl
    have h1 := hf 1 _ rfl
    have h2 := hf 2 _ rfl
    have h3 := hf 3 _ rfl
    have h4 := hf 4 _ rfl
    have h5 := hf 5 _ rfl
    have h6 := hf 6 _ rfl
    have h7 := hf 7 _ rfl
    have h8 := hf 8 _ rfl
    simp only [ocells3, ocells22, List.drop_zero, List.drop_succ_cons, List.take_succ_cons, List.take_zero, List.getElem?_cons_zero, List.getElem?_cons_succ] at h0 h1 h2 h3 h4 h5 h6 h7 h8
    obtain ⟨s0, e0, _, w0⟩ := DataW.trod_int Try.underlying3 h0
    obtain ⟨s1, e1, _, w1⟩ := DataW.trod_int Try.underlying3 h1
    obtain ⟨s2, e2, _, w2⟩ := DataW.trod_int Try.underlying3 h2
    obtain ⟨s3, e3, _, w3⟩ := DataW.trod_int Try.underlying3 h3
    obtain ⟨s8, e8, _, w8⟩ := DataW.trod_int Try.underlying3 h8
    obtain ⟨a4, l4, k4, e4, i4⟩ := list_of h4 (light_part hw 4 22 rfl _ rfl)
    obtain ⟨a5, l5, k5, e5, i5⟩ := list_of h5 (light_part hw 5 22 rfl _ rfl)
    obtain ⟨a6, l6, k6, e6, i6⟩ := list_of h6 (light_part hw 6 22 rfl _ rfl)
    obtain ⟨a7, l7, k7, e7, i7⟩ := list_of h7 (light_part hw 7 22 rfl _ rfl)
    simp [ocells3, ocells22] at e0 e1 e2 e3 e4 e5 e6 e7 e8
    subst e0 e1 e2 e3 e4 e5 e6 e7 e8
    exact ⟨⟨s0, s1, s2, s3, l4, l5, l6, l7, s8⟩, _, _, _, _, rfl, i4, i5, i6, i7, bounds_i64 w0, bounds_i64 w1, bounds_i64 w2, bounds_i64 w3, bounds_i64 w8⟩
/-- A state among the arguments. -/
theorem state_of {v : Value} {d : DataW H} {p : List MemPlace} {cs : Array Value} (hv : v = .agg cs) (h : DataW.Trod enc Try.prog w 0 (fun _ => true) true 24 v d p) (hw : Light 24 d) : ∃ q : Pt, PartM w v q := by
  subst hv
  obtain ⟨fuel, hf⟩ := h
  obtain ⟨q, hq⟩ := part_of hf hw
  refine ⟨q, ?_⟩
  have e : (Value.agg cs).cells.toList.toArray = cs := by simp [Value.cells]
  rw [e] at hq
  exact hq
/-- A list among the arguments. -/
theorem row_of {v : Value} {d : DataW H} {p : List MemPlace} {a : Option Addr} {len cap : Nat} (hv : v = .slice a len cap) (h : DataW.Trod enc Try.prog w 0 (fun _ => true) true 22 v d p) (hw : Light 22 d) : ∃ l : List Int, IL w v l := by
  subst hv
  obtain ⟨fuel, hf⟩ := h
  obtain ⟨a', l, c, e, hi⟩ := list_of hf hw
  simp [Value.cells] at e
  obtain ⟨rfl, rfl, rfl⟩ := e
  exact ⟨l, hi⟩
theorem light_of {ts : List TypeId} {ds : List (DataW H)} (h : (DataW.weightsEach Try.prog ts ds).all (· ≤ reachBytes) = true) (j : Nat) {t : TypeId} {d : DataW H} (ht : ts[j]? = some t) (hd : ds[j]? = some d) : Light t d := fun n hn => by
  have := List.all_eq_true.1 h n (DataW.weights_mem_each ht hd n hn)
  simpa using this
end
end Go.Proofs.Ytfahepeemodcbaa

namespace Go.Proofs.Ytfahepeemodcbaa
open Go.ChangeShapes Go.WideShapes Go.ChangeAt Go.RowKit
set_option linter.unusedVariables false
set_option linter.unusedSimpArgs false
set_option maxRecDepth 100000

/-- A call in memory. -/
def OpC (w : World) (b o : Nat) (x : Opn) : Prop := ∃ la lc ua uc, w.cell? ⟨b, o, none⟩ = some (.int .i64 x.kind) ∧ w.cell? ⟨b, o + 1, none⟩ = some (.int .i64 x.a) ∧ w.cell? ⟨b, o + 2, none⟩ = some (.int .i64 x.b) ∧ w.cell? ⟨b, o + 3, none⟩ = some (.int .i64 x.c) ∧
  w.cell? ⟨b, o + 4, none⟩ = some (.slice la x.l.length lc) ∧ w.cell? ⟨b, o + 5, none⟩ = some (.slice ua x.up.length uc) ∧ IL w (.slice la x.l.length lc) x.l ∧ IL w (.slice ua x.up.length uc) x.up ∧ I64 x.kind ∧ I64 x.a ∧ I64 x.b ∧ I64 x.c
theorem OpC.under {w w' : World} {b o : Nat} {x : Opn} (h : OpC w b o x) (hb : Below w.heap.size w w') : OpC w' b o x := by
  obtain ⟨la, lc, ua, uc, h0, h1, h2, h3, h4, h5, h6, h7, h8⟩ := h
  exact ⟨la, lc, ua, uc, kept_cell hb h0, kept_cell hb h1, kept_cell hb h2, kept_cell hb h3, kept_cell hb h4, kept_cell hb h5, h6.under hb, h7.under hb, h8⟩
/-- A script in memory. -/
structure Script (w : World) (v : Value) (ops : List Opn) : Prop where
  shape : ∃ so cap, v = .slice so ops.length cap ∧ (ops ≠ [] → ∃ b off, so = some ⟨b, off, none⟩ ∧ ∀ i (hi : i < ops.length), OpC w b (off + i * 6) ops[i])
  len : ops.length ≤ maxLen

section
variable {H : Type} {enc : TypeId × Value → H} {w : World}
theorem weightsAll_mem {e : TypeId} : ∀ {l : List (DataW H)} {d : DataW H}, d ∈ l → ∀ n ∈ d.weights Try.prog e, n ∈ DataW.weightsAll Try.prog e l
  | x :: r, d, hd, n, hn => by
    simp only [DataW.weightsAll, List.mem_append]
    rcases List.mem_cons.1 hd with rfl | h
    · exact .inl hn
    · exact .inr (weightsAll_mem h n hn)
theorem light_op {xs : List (DataW H × List MemPlace)} (hw : Light 26 (.agg (xs.map (·.1)) : DataW H)) (j : Nat) (t : TypeId) (ht : ([3, 3, 3, 3, 22, 22] : List TypeId)[j]? = some t) (y : DataW H × List MemPlace) (hy : xs[j]? = some y) : Light t y.1 := by
  intro n hn
  refine hw n ?_
  have e : (DataW.agg (xs.map (·.1)) : DataW H).weights Try.prog 26 = DataW.weightsEach Try.prog [3, 3, 3, 3, 22, 22] (xs.map (·.1)) := by
    simp only [DataW.weights, Try.underlying26]; rfl
  rw [e]
  exact DataW.weights_mem_each ht (by simp [hy]) n hn
theorem op_of {fuel : Nat} {cs : List Value} {x : DataW H × List MemPlace} (h : DataW.trod enc Try.prog w 0 (fun _ => true) true fuel 26 cs = some x) (hw : Light 26 x.1) :
    ∃ (o : Opn) (la : Option Addr) (lc : Nat) (ua : Option Addr) (uc : Nat), cs = [.int .i64 o.kind, .int .i64 o.a, .int .i64 o.b, .int .i64 o.c, .slice la o.l.length lc, .slice ua o.up.length uc] ∧ IL w (.slice la o.l.length lc) o.l ∧ IL w (.slice ua o.up.length uc) o.up ∧ I64 o.kind ∧ I64 o.a ∧ I64 o.b ∧ I64 o.c := by
  obtain ⟨xs, n, _, rfl, hl, hlen, hf⟩ := DataW.trod_struct Try.underlying26 h
  rw [cells26] at hl
  match cs, hl, xs, hlen with
  | [c0, c1, c2, c3, c4, c5], _, [y0, y1, y2, y3, y4, y5], _ =>
    have h0 := hf 0 _ rfl
    have h1 := hf 1 _ rfl
    have h2 := hf 2 _ rfl
    have h3 := hf 3 _ rfl
    have h4 := hf 4 _ rfl
    have h5 := hf 5 _ rfl
    simp only [ocells3, ocells22, List.drop_zero, List.drop_succ_cons, List.take_succ_cons, List.take_zero, List.getElem?_cons_zero, List.getElem?_cons_succ] at h0 h1 h2 h3 h4 h5
    obtain ⟨s0, e0, _, w0⟩ := DataW.trod_int Try.underlying3 h0
    obtain ⟨s1, e1, _, w1⟩ := DataW.trod_int Try.underlying3 h1
    obtain ⟨s2, e2, _, w2⟩ := DataW.trod_int Try.underlying3 h2
    obtain ⟨s3, e3, _, w3⟩ := DataW.trod_int Try.underlying3 h3
    obtain ⟨a4, l4, k4, e4, i4⟩ := list_of h4 (light_op hw 4 22 rfl _ rfl)
    obtain ⟨a5, l5, k5, e5, i5⟩ := list_of h5 (light_op hw 5 22 rfl _ rfl)
    simp [ocells3, ocells22] at e0 e1 e2 e3 e4 e5
    subst e0 e1 e2 e3 e4 e5
    exact ⟨⟨s0, s1, s2, s3, l4, l5⟩, a4, k4, a5, k5, rfl, i4, i5, bounds_i64 w0, bounds_i64 w1, bounds_i64 w2, bounds_i64 w3⟩
/-- A call among the arguments. -/
theorem call_of {v : Value} {d : DataW H} {p : List MemPlace} {cs : Array Value} (hv : v = .agg cs) (h : DataW.Trod enc Try.prog w 0 (fun _ => true) true 26 v d p) (hw : Light 26 d) : ∃ o : Opn, OpM w v o := by
  subst hv
  obtain ⟨fuel, hf⟩ := h
  obtain ⟨o, la, lc, ua, uc, e, h1, h2, h3⟩ := op_of hf hw
  refine ⟨o, _, _, ?_, h1, h2, h3⟩
  have e2 : cs.toList = [.int .i64 o.kind, .int .i64 o.a, .int .i64 o.b, .int .i64 o.c, .slice la o.l.length lc, .slice ua o.up.length uc] := by simpa [Value.cells] using e
  rw [← Array.toArray_toList (xs := cs), e2]
theorem cellsUp {base : Nat} {a : Addr} {n : Nat} {cs : List Value} (h : w.cells? base a n = some cs) : cs.length = n ∧ ∀ (i : Nat) (c : Value), cs[i]? = some c → w.cell? (a.add i) = some c := by
  unfold World.cells? at h
  split at h
  · have step : ∀ (r : List Nat) (z : List Value), List.mapM (fun i => w.cell? (a.add i)) r = some z → z.length = r.length ∧ ∀ (i j : Nat) (c : Value), r[i]? = some j → z[i]? = some c → w.cell? (a.add j) = some c := by
      intro r
      induction r with
      | nil => intro z hz; have e : z = [] := by simpa using hz.symm
               subst e; exact ⟨rfl, fun i j c hi => by simp at hi⟩
      | cons x r ih =>
        intro z hz
        rw [List.mapM_cons] at hz
        obtain ⟨c, h1, h2⟩ := Option.bind_eq_some_iff.1 hz
        obtain ⟨t, h3, h4⟩ := Option.bind_eq_some_iff.1 h2
        have e : z = c :: t := (Option.some.inj h4).symm
        subst e
        obtain ⟨i1, i2⟩ := ih t h3
        refine ⟨by simp [i1], fun i j d hi hd => ?_⟩
        cases i with
        | zero => simp at hi hd; subst hi; subst hd; exact h1
        | succ i => exact i2 i j d (by simpa using hi) (by simpa using hd)
    obtain ⟨s1, s2⟩ := step _ _ h
    refine ⟨by simpa using s1, fun i c hi => s2 i i c ?_ hi⟩
    have := (List.getElem?_eq_some_iff.1 hi).1
    rw [s1] at this
    rw [List.getElem?_range (by simpa using this)]
  · cases h
theorem add_add (b o i j : Nat) : ((⟨b, o, none⟩ : Addr).add i).add j = ⟨b, o + i + j, none⟩ := by rw [add_at, add_at]
/-- A script among the arguments. -/
theorem script_of {v : Value} {d : DataW H} {p : List MemPlace} {a : Option Addr} {len cap : Nat} (hv : v = .slice a len cap) (h : DataW.Trod enc Try.prog w 0 (fun _ => true) true 35 v d p) (hw : Light 35 d) : ∃ ops : List Opn, Script w v ops := by
  subst hv
  obtain ⟨fuel, hf⟩ := h
  rcases Deep.open_slice Try.underlying35 hf with ⟨hcs, _⟩ | ⟨x, l, c, m, n, D, Pl, hcs, _, hl, hm, hmm, hx2, hx⟩
  · simp [Value.cells] at hcs
    obtain ⟨rfl, rfl, rfl⟩ := hcs
    exact ⟨[], ⟨none, 0, rfl, fun h => absurd rfl h⟩, Nat.zero_le _⟩
  · simp [Value.cells] at hcs
    obtain ⟨rfl, rfl, rfl⟩ := hcs
    simp only [if_true] at hmm
    subst hmm
    have hd : d = .slice ((List.range len).map D) ((List.range (m - len)).map fun j => D (len + j)) := congrArg Prod.fst hx2
    have hlt : ∀ i, i < len → Light 26 (D i) := fun i hi k hk => by
      refine hw k ?_
      rw [hd]
      simp only [DataW.weights, Try.underlying35, List.mem_cons, List.mem_append]
      exact .inr (.inl (weightsAll_mem (List.mem_map.2 ⟨i, List.mem_range.2 hi, rfl⟩) k hk))
    rw [cells26] at hx
    by_cases h0 : len = 0
    · subst h0
      exact ⟨[], ⟨some x, m, rfl, fun h => absurd rfl h⟩, Nat.zero_le _⟩
    · obtain ⟨b, off, spot⟩ := x
      have hspot : spot = none := by
        obtain ⟨cs', h1, h2⟩ := hx 0 (by omega)
        obtain ⟨o, la, lc, ua, uc, rfl, _⟩ := op_of h2 (hlt 0 (by omega))
        have hc := (cellsUp h1).2 0 _ rfl
        have := World.cell?_spot hc
        simpa [Addr.add] using this
      subst hspot
      have hall : ∀ i, i < len → ∃ o : Opn, OpC w b (off + i * 6) o := fun i hi => by
        obtain ⟨cs', h1, h2⟩ := hx i (by omega)
        obtain ⟨o, la, lc, ua, uc, rfl, j1, j2, j3⟩ := op_of h2 (hlt i hi)
        have hc := (cellsUp h1).2
        have g0 := hc 0 _ rfl
        have g1 := hc 1 _ rfl
        have g2 := hc 2 _ rfl
        have g3 := hc 3 _ rfl
        have g4 := hc 4 _ rfl
        have g5 := hc 5 _ rfl
        rw [add_add] at g0 g1 g2 g3 g4 g5
        exact ⟨o, la, lc, ua, uc, g0, g1, g2, g3, g4, g5, j1, j2, j3⟩
      have hV : ∃ V : Nat → Opn, ∀ i, i < len → OpC w b (off + i * 6) (V i) :=
        ⟨fun i => if hi : i < len then Classical.choose (hall i hi) else ⟨0, 0, 0, 0, [], []⟩, fun i hi => by
          simp only [hi, dite_true]
          exact Classical.choose_spec (hall i hi)⟩
      obtain ⟨V, hV⟩ := hV
      refine ⟨(List.range len).map V, ⟨some ⟨b, off, none⟩, m, by simp, fun _ => ⟨b, off, rfl, fun i hi => ?_⟩⟩, by simp; omega⟩
      simp only [List.length_map, List.length_range] at hi
      simp only [List.getElem_map, List.getElem_range]
      exact hV i (by omega)
end
end Go.Proofs.Ytfahepeemodcbaa
