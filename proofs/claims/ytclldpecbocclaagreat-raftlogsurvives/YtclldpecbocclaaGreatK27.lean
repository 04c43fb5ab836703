/- What the arguments of a statement are in memory: a script of calls. -/
import Derived.Test.YtclldpecbocclaaGreatK8
import Derived.Test.YtclldpecbocclaaGreatK2
import Derived.ProofKit
import Derived.OpenShut
import Derived.ShutString
import Derived.ChangeOld
import Derived.SliceStrings
import Derived.Deep.Slices
import Derived.Lib.SmallJoins
namespace Go.Proofs.YtclldpecbocclaaGreat
open Go.ChangeShapes Go.WideShapes Go.ChangeAt Go.RowKit
set_option linter.unusedVariables false
set_option linter.unusedSimpArgs false
set_option maxRecDepth 100000

theorem own : ownKnob Tryz.prog.godebug = none := by kernel_rfl
theorem laidOut : laidOutB Tryz.prog = true := by kernel_rfl
theorem cells38 : Tryz.prog.cellsOf 37 = 3 := by kernel_rfl
theorem cells34 : Tryz.prog.cellsOf 34 = 7 := by kernel_rfl
theorem cells31 : Tryz.prog.cellsOf 31 = 1 := by kernel_rfl
theorem cells32 : Tryz.prog.cellsOf 32 = 1 := by kernel_rfl
theorem ocells3 : Tryz.prog.cellsOf 3 = 1 := by kernel_rfl
theorem ocells4 : Tryz.prog.cellsOf 4 = 1 := by kernel_rfl
theorem ocells9 : Tryz.prog.cellsOf 9 = 1 := by kernel_rfl
/-- Numbers that came in, below a world's end. -/
structure Nums (w : World) (oa : Option Addr) (ks : List Int) : Prop where
  at_ : dIntsAt w oa ks
  lt : ks ≠ [] → ∀ b off, oa = some ⟨b, off, none⟩ → b < w.heap.size
  len : ks.length ≤ maxLen
theorem Nums.get {w w1 : World} {oa : Option Addr} {ks : List Int} (h : Nums w oa ks) (hb : Below w.heap.size w w1) (k : Nat) (hk : k < ks.length) : ∃ b off, oa = some ⟨b, off, none⟩ ∧ w1.cell? ⟨b, off + k, none⟩ = some (.int .i64 ks[k]) ∧ -9223372036854775808 ≤ ks[k] ∧ ks[k] ≤ 9223372036854775807 := by
  have hne : ks ≠ [] := fun e => by rw [e] at hk; simp at hk
  rcases h.at_ with h0 | ⟨b, off, e, hc⟩
  · exact absurd h0 hne
  · have := hc k hk
    exact ⟨b, off, e, (World.cell?_of_block (hb.block b (h.lt hne b off e))).trans this.1, this.2.1, this.2.2⟩
theorem Nums.cell {w w1 : World} {b off : Nat} {ks : List Int} (h : Nums w (some ⟨b, off, none⟩) ks) (hb : Below w.heap.size w w1) (k : Nat) (hk : k < ks.length) : w1.cell? ⟨b, off + k, none⟩ = some (.int .i64 ks[k]) := by
  obtain ⟨b', off', e, h1, _⟩ := h.get hb k hk
  cases e
  exact h1
/-- A slice of integers that came in: nil, or a row of so many numbers. -/
def IsRow (k : IntKind) (w : World) (a : Option Addr) (len cap : Nat) (zs : List Int) : Prop :=
  (a = none ∧ len = 0 ∧ cap = 0 ∧ zs = []) ∨
  ∃ x, a = some x ∧ len ≤ cap ∧ cap ≤ maxLen ∧ zs.length = cap ∧ (∀ i, i < zs.length → w.cell? (x.add i) = some (.int k (zs.getD i 0))) ∧ ∀ n ∈ zs, (Lit.int k n).wf = true
theorem IsRow.nums {w : World} {a : Option Addr} {len cap : Nat} {zs : List Int} (h : IsRow .i64 w a len cap zs) : ∃ ks : List Int, len = ks.length ∧ Nums w a ks := by
  rcases h with ⟨rfl, rfl, rfl, rfl⟩ | ⟨x, rfl, hl, hm, hz, hcell, hwz⟩
  · exact ⟨[], rfl, .inl rfl, fun h => absurd rfl h, Nat.zero_le _⟩
  · have hlen : (zs.take len).length = len := by rw [List.length_take]; omega
    refine ⟨zs.take len, hlen.symm, ?_, ?_, by omega⟩
    · by_cases h0 : len = 0
      · left; subst h0; simp
      · obtain ⟨b, off, spot⟩ := x
        have hc := hcell 0 (by omega)
        cases spot with
        | some sp =>
          exfalso
          simp [World.cell?, Addr.add] at hc
          split at hc <;> simp_all
        | none =>
          refine .inr ⟨b, off, rfl, fun j hj => ?_⟩
          have hjz : j < zs.length := by rw [List.length_take] at hj; omega
          have hadd : (⟨b, off, none⟩ : Addr).add j = ⟨b, off + j, none⟩ := by unfold Addr.add; split <;> simp_all
          have h2 := hcell j hjz
          have e : (zs.take len)[j] = zs.getD j 0 := by simp [List.getD, hjz]
          rw [hadd] at h2
          have hb := bounds_i64 (hwz (zs.getD j 0) (by simp [List.getD, hjz]))
          rw [e]
          exact ⟨h2, hb.1, hb.2⟩
    · intro hne b off e
      cases e
      have h0 : 0 < zs.length := by
        rcases Nat.eq_zero_or_pos zs.length with h | h
        · exact absurd (by rw [List.eq_nil_of_length_eq_zero h]; simp) hne
        · exact h
      have hc := hcell 0 h0
      exact World.block_lt_of_cell? w _ hc
/-- A call of a script. -/
structure OpV where
  kind : Int
  n : Int
  m : Int
  text : List UInt8
  la : Option Addr
  lc : Nat
  l : List Et
  fits : Bool
  ka : Option Addr
  kc : Nat
  kl : List Int
structure OpV.ok (w : World) (x : OpV) : Prop where
  k : I64 x.kind
  n : I64 x.n
  m : I64 x.m
  t : x.text.length ≤ maxLen
  e : EAt w x.la x.l
  c : x.l.length ≤ x.lc
  cm : x.lc ≤ maxLen
  nn : x.la = none → x.lc = 0
  kv : Nums w x.ka x.kl
def OpV.cells (x : OpV) : List Value := [.int .i64 x.kind, .int .i64 x.n, .int .i64 x.m, .string (strOf x.text), .slice x.la x.l.length x.lc, .bool x.fits, .slice x.ka x.kl.length x.kc]
/-- A script in memory. -/
def OpsAt (w : World) (so : Option Addr) (ops : List OpV) : Prop :=
  ops = [] ∨ ∃ b off, so = some ⟨b, off, none⟩ ∧ b < w.heap.size ∧ ∀ i (hi : i < ops.length), ops[i].ok w ∧ ∀ j u, (ops[i].cells)[j]? = some u → w.cell? ⟨b, off + i * 7 + j, none⟩ = some u
section
variable {H : Type} {enc : TypeId × Value → H} {w : World} {base : Nat} {spare : Nat → Bool} {held : Bool}
theorem cellsUp {a : Addr} {n : Nat} {cs : List Value} (h : w.cells? base a n = some cs) : cs.length = n ∧ ∀ (i : Nat) (c : Value), cs[i]? = some c → w.cell? (a.add i) = some c := by
  unfold World.cells? at h
  split at h
  · have step : ∀ (r : List Nat) (z : List Value), List.mapM (fun i => w.cell? (a.add i)) r = some z → z.length = r.length ∧ ∀ (i j : Nat) (c : Value), r[i]? = some j → z[i]? = some c → w.cell? (a.add j) = some c := by
      intro r
      induction r with
      | nil => intro z hz; have e : z = [] := by simpa using hz.symm
               subst e; exact ⟨rfl, fun i j c hi => by simp at hi⟩
      | cons x r ih =>
        intro z hz
        rw [List.mapM_cons] at hz
        obtain ⟨c, h1, h2⟩ := Option.bind_eq_some_iff.1 hz
        obtain ⟨t, h3, h4⟩ := Option.bind_eq_some_iff.1 h2
        have e : z = c :: t := (Option.some.inj h4).symm
        subst e
        obtain ⟨i1, i2⟩ := ih t h3
        refine ⟨by simp [i1], fun i j d hi hd => ?_⟩
        cases i with
        | zero => simp at hi hd; subst hi; subst hd; exact h1
        | succ i => exact i2 i j d (by simpa using hi) (by simpa using hd)
    obtain ⟨s1, s2⟩ := step _ _ h
    refine ⟨by simpa using s1, fun i c hi => s2 i i c ?_ hi⟩
    have := (List.getElem?_eq_some_iff.1 hi).1
    rw [s1] at this
    rw [List.getElem?_range (by simpa using this)]
  · cases h
theorem add_add (b o i j : Nat) : ((⟨b, o, none⟩ : Addr).add i).add j = ⟨b, o + i + j, none⟩ := by
  have h : ∀ o i, (⟨b, o, none⟩ : Addr).add i = ⟨b, o + i, none⟩ := fun o i => by unfold Addr.add; split <;> simp_all
  rw [h, h]
theorem strOf_eq2 (s : ByteArray) : strOf s.data.toList = s := by cases s; simp [strOf]
theorem ent_of {fuel : Nat} {cs : List Value} {x : DataW H × List MemPlace} (h : DataW.trod enc Tryz.prog w 0 (fun _ => true) true fuel 37 cs = some x) :
    ∃ r : Et, cs = [.int .i64 r.t, .int .i64 r.i, .string (strOf r.d)] := by
  obtain ⟨xs, n, _, rfl, hl, hlen, hf⟩ := DataW.trod_struct Tryz.underlying37 h
  rw [cells38] at hl
  match cs, hl, xs, hlen with
  | [c0, c1, c2], _, [y0, y1, y2], _ =>
    have h0 := hf 0 _ rfl
    have h1 := hf 1 _ rfl
    have h2 := hf 2 _ rfl
    simp only [ocells3, ocells9, List.drop_zero, List.drop_succ_cons, List.take_succ_cons, List.take_zero, List.getElem?_cons_zero, List.getElem?_cons_succ] at h0 h1 h2
    obtain ⟨k0, e0, _, w0⟩ := DataW.trod_int Tryz.underlying3 h0
    obtain ⟨k1, e1, _, w1⟩ := DataW.trod_int Tryz.underlying3 h1
    obtain ⟨s2, e2, _, w2⟩ := DataW.trod_string Tryz.underlying9 h2
    simp [ocells3, ocells9] at e0 e1 e2
    subst e0 e1 e2
    exact ⟨⟨k0, k1, s2.data.toList⟩, by simp only [strOf_eq2]⟩
theorem ents_in {cs : List Value} {fuel : Nat} {x : DataW H × List MemPlace} {v : Value} (hv : cs = [v]) (hf : DataW.trod enc Tryz.prog w 0 (fun _ => true) true fuel 31 cs = some x) :
    ∃ (zs : List Et) (a : Option Addr) (cap : Nat), v = .slice a zs.length cap ∧ EAt w a zs ∧ zs.length ≤ cap ∧ cap ≤ maxLen ∧ (a = none → cap = 0) := by
  subst hv
  rcases Deep.open_slice Tryz.underlying31 hf with ⟨hcs, _⟩ | ⟨x, l, c, m, n, D, Pl, hcs, _, hl, hm, hmm, _, hx⟩
  · simp at hcs
    subst hcs
    exact ⟨[], none, 0, rfl, fun h => by simp at h, by simp, Nat.zero_le _, fun _ => rfl⟩
  · simp at hcs
    subst hcs
    simp only [if_true] at hmm
    subst hmm
    rw [cells38] at hx
    by_cases h0 : l = 0
    · subst h0
      exact ⟨[], _, _, rfl, fun h => by simp at h, by simp, hm, fun h => by cases h⟩
    · obtain ⟨b, off, spot⟩ := x
      have hspot : spot = none := by
        obtain ⟨cs', h1, h2⟩ := hx 0 (by omega)
        obtain ⟨o, rfl⟩ := ent_of h2
        have hc := (cellsUp h1).2 0 _ rfl
        have := World.cell?_spot hc
        simpa [Addr.add] using this
      subst hspot
      have hall : ∀ i, i < m → ∃ o : Et, ∀ j u, (ecells o)[j]? = some u → w.cell? ⟨b, off + i * 3 + j, none⟩ = some u := fun i hi => by
        obtain ⟨cs', h1, h2⟩ := hx i hi
        obtain ⟨o, rfl⟩ := ent_of h2
        have hc := (cellsUp h1).2
        refine ⟨o, fun j u hu => ?_⟩
        have g := hc j u hu
        rw [add_add] at g
        exact g
      have hbw : b < w.heap.size := by
        obtain ⟨o, hc⟩ := hall 0 (by omega)
        exact World.block_lt_of_cell? w _ (hc 0 _ rfl)
      have hV : ∃ V : Nat → Et, ∀ i, i < m → ∀ j u, (ecells (V i))[j]? = some u → w.cell? ⟨b, off + i * 3 + j, none⟩ = some u :=
        ⟨fun i => if hi : i < m then Classical.choose (hall i hi) else ⟨0, 0, []⟩, fun i hi => by
          simp only [hi, dite_true]
          exact Classical.choose_spec (hall i hi)⟩
      obtain ⟨V, hV⟩ := hV
      refine ⟨(List.range l).map V, some ⟨b, off, none⟩, m, by rw [List.length_map, List.length_range], fun _ => ⟨b, off, rfl, hbw, fun j u hu => ?_⟩, by simp only [List.length_map, List.length_range]; omega, hm, fun h => by cases h⟩
      have hjl : j < l * 3 := by
        have := (List.getElem?_eq_some_iff.1 hu).1
        rw [flatT_length, List.length_map, List.length_range] at this
        exact this
      have hget : ((List.range l).map V)[j / 3]? = some (V (j / 3)) := by
        rw [List.getElem?_map, List.getElem?_range (by omega)]
        rfl
      obtain ⟨f0, f1, f2⟩ := flatT_at _ _ _ hget
      have hc := hV (j / 3) (by omega)
      have h3 : j % 3 = 0 ∨ j % 3 = 1 ∨ j % 3 = 2 := by omega
      rcases h3 with h3 | h3 | h3
      · have e : j = j / 3 * 3 := by omega
        rw [e] at hu
        rw [f0] at hu
        have := hc 0 _ rfl
        rw [show off + j = off + j / 3 * 3 + 0 by omega, this]
        exact hu
      · have e : j = j / 3 * 3 + 1 := by omega
        rw [e] at hu
        rw [f1] at hu
        have := hc 1 _ rfl
        rw [show off + j = off + j / 3 * 3 + 1 by omega, this]
        exact hu
      · have e : j = j / 3 * 3 + 2 := by omega
        rw [e] at hu
        rw [f2] at hu
        have := hc 2 _ rfl
        rw [show off + j = off + j / 3 * 3 + 2 by omega, this]
        exact hu
theorem op_of {fuel : Nat} {cs : List Value} {x : DataW H × List MemPlace} (h : DataW.trod enc Tryz.prog w 0 (fun _ => true) true fuel 34 cs = some x) :
    ∃ o : OpV, o.ok w ∧ cs = o.cells := by
  obtain ⟨xs, n, _, rfl, hl, hlen, hf⟩ := DataW.trod_struct Tryz.underlying34 h
  rw [cells34] at hl
  match cs, hl, xs, hlen with
  | [c0, c1, c2, c3, c4, c5, c6], _, [y0, y1, y2, y3, y4, y5, y6], _ =>
    have h0 := hf 0 _ rfl
    have h1 := hf 1 _ rfl
    have h2 := hf 2 _ rfl
    have h3 := hf 3 _ rfl
    have h4 := hf 4 _ rfl
    have h5 := hf 5 _ rfl
    have h6 := hf 6 _ rfl
    simp only [ocells3, ocells9, ocells4, cells31, cells32, List.drop_zero, List.drop_succ_cons, List.take_succ_cons, List.take_zero, List.getElem?_cons_zero, List.getElem?_cons_succ] at h0 h1 h2 h3 h4 h5 h6
    obtain ⟨k0, e0, _, w0⟩ := DataW.trod_int Tryz.underlying3 h0
    obtain ⟨k1, e1, _, w1⟩ := DataW.trod_int Tryz.underlying3 h1
    obtain ⟨k2, e2, _, w2⟩ := DataW.trod_int Tryz.underlying3 h2
    obtain ⟨s3, e3, _, w3⟩ := DataW.trod_string Tryz.underlying9 h3
    obtain ⟨zs, a, cap, e4, w4, w5, w6, w7⟩ := ents_in rfl h4
    obtain ⟨b5, e5, _⟩ := DataW.trod_bool Tryz.underlying4 h5
    have e6 : ∃ ka kc kl, c6 = .slice ka (List.length kl) kc ∧ Nums w ka kl := by
      rcases open_ints Tryz.underlying32 Tryz.underlying3 (by kernel_rfl) h6 with ⟨hcs, _⟩ | ⟨x, l, c, zs, hcs, _, hl, hm, hz, _, hcell, hwz⟩
      · simp [cells32] at hcs
        exact ⟨none, 0, [], hcs, .inl rfl, fun h => absurd rfl h, Nat.zero_le _⟩
      · simp [cells32] at hcs
        obtain ⟨kl, e1, e2⟩ := IsRow.nums (w := w) (a := some x) (len := l) (cap := c) (zs := zs) (.inr ⟨x, rfl, hl, hm, by simpa using hz, hcell, hwz⟩)
        exact ⟨some x, c, kl, by rw [hcs, e1], e2⟩
    obtain ⟨ka, kc, kl, e6, w8⟩ := e6
    simp [ocells3, ocells9, ocells4] at e0 e1 e2 e3 e5
    subst e0 e1 e2 e3 e4 e5 e6
    exact ⟨⟨k0, k1, k2, s3.data.toList, a, cap, zs, b5, ka, kc, kl⟩, ⟨bounds_i64 w0, bounds_i64 w1, bounds_i64 w2, by simpa using w3, w4, w5, w6, w7, w8⟩, by simp only [OpV.cells, strOf_eq2]⟩
/-- A script that came in. -/
theorem script_of {v : Value} {d : DataW H} {p : List MemPlace} {a : Option Addr} {len cap : Nat} (hv : v = .slice a len cap) (h : DataW.Trod enc Tryz.prog w 0 (fun _ => true) true 22 v d p) :
    ∃ ops : List OpV, len = ops.length ∧ OpsAt w a ops ∧ len ≤ maxLen := by
  subst hv
  obtain ⟨fuel, hf⟩ := h
  rcases Deep.open_slice Tryz.underlying22 hf with ⟨hcs, _⟩ | ⟨x, l, c, m, n, D, Pl, hcs, _, hl, hm, hmm, _, hx⟩
  · simp [Value.cells] at hcs
    obtain ⟨rfl, rfl, rfl⟩ := hcs
    exact ⟨[], rfl, .inl rfl, Nat.zero_le _⟩
  · simp [Value.cells] at hcs
    obtain ⟨rfl, rfl, rfl⟩ := hcs
    simp only [if_true] at hmm
    subst hmm
    rw [cells34] at hx
    by_cases h0 : len = 0
    · exact ⟨[], by simpa using h0, .inl rfl, by omega⟩
    · obtain ⟨b, off, spot⟩ := x
      have hspot : spot = none := by
        obtain ⟨cs', h1, h2⟩ := hx 0 (by omega)
        obtain ⟨o, ho, rfl⟩ := op_of h2
        have hc := (cellsUp h1).2 0 _ rfl
        have := World.cell?_spot hc
        simpa [Addr.add] using this
      subst hspot
      have hall : ∀ i, i < m → ∃ o : OpV, o.ok w ∧ ∀ j u, (o.cells)[j]? = some u → w.cell? ⟨b, off + i * 7 + j, none⟩ = some u := fun i hi => by
        obtain ⟨cs', h1, h2⟩ := hx i hi
        obtain ⟨o, ho, rfl⟩ := op_of h2
        have hc := (cellsUp h1).2
        refine ⟨o, ho, fun j u hu => ?_⟩
        have g := hc j u hu
        rw [add_add] at g
        exact g
      have hbw : b < w.heap.size := by
        obtain ⟨o, ho, hc⟩ := hall 0 (by omega)
        exact World.block_lt_of_cell? w _ (hc 0 _ rfl)
      have hV : ∃ V : Nat → OpV, ∀ i, i < m → (V i).ok w ∧ ∀ j u, ((V i).cells)[j]? = some u → w.cell? ⟨b, off + i * 7 + j, none⟩ = some u :=
        ⟨fun i => if hi : i < m then Classical.choose (hall i hi) else ⟨0, 0, 0, [], none, 0, [], false, none, 0, []⟩, fun i hi => by
          simp only [hi, dite_true]
          exact Classical.choose_spec (hall i hi)⟩
      obtain ⟨V, hV⟩ := hV
      refine ⟨(List.range len).map V, by simp, .inr ⟨b, off, rfl, hbw, fun i hi => ?_⟩, by omega⟩
      simp only [List.length_map, List.length_range] at hi
      simp only [List.getElem_map, List.getElem_range]
      exact hV i (by omega)
end
end Go.Proofs.YtclldpecbocclaaGreat

