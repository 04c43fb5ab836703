/- Groups and the document's, side by side. -/
import Derived.Test.YtdnpbhijjmlecaaZ26
import Derived.Test.YtdnpbhijjmlecaaZ27
import Derived.Test.YtdnpbhijjmlecaaZ7
import Derived.ProofKit
import Derived.OpenShut
import Derived.ShutString
import Derived.ChangeOld
import Derived.SliceStrings
import Derived.SizedLaws
import Derived.Deep.Slices
import Derived.Lib.SmallJoins
import Derived.Test.YtdnpbhijjmlecaaZ8
import Derived.BigQuiet
import Derived.Deep.CutRange
import Derived.Deep.CutBlock
namespace Go.Proofs.Ytdnpbhijjmlecaa
open Go.RowKit Go.Maps
set_option linter.unusedSimpArgs false
set_option linter.unusedVariables false

structure BothC (w0 W : World) (q r k : Nat) (S Sd : Gs) (Zp Zd : Nat → Prop) (vl : Value) (es : List Ent) (ep : Int) : Prop where
  p : AllM W Zp q S
  d : DM Zd W r vl es ep
  r : RelS k es ep Sd
  zp : ∀ j, Zp j → w0.heap.size ≤ j
  zd : ∀ j, Zd j → w0.heap.size ≤ j
  ap : ∀ j, Zp j → ¬ Zd j
  b : Below w0.heap.size w0 W
/-- Groups, and the document's: as many records. -/
def BothP (w0 W : World) (q r k : Nat) (S : Gs) : Prop := GsOk k S ∧ EvOk k S ∧ ∃ Zp Zd vl es ep, BothC w0 W q r k S S Zp Zd vl es ep
/-- The program's have had the record, the document's have not. -/
def MidP (w0 W : World) (q r k : Nat) (S S' : Gs) (v : Value) (l : List Int) : Prop := GsOk k S ∧ EvOk k S ∧ ∃ Zp Zd vl es ep, BothC w0 W q r k S' S Zp Zd vl es ep ∧ IL W v l ∧ In (fun b => ¬ Zd b) v l
theorem BothC.under {w0 W V : World} {q r k : Nat} {S Sd : Gs} {Zp Zd : Nat → Prop} {vl : Value} {es : List Ent} {ep : Int} (h : BothC w0 W q r k S Sd Zp Zd vl es ep) (hb : Below W.heap.size W V) : BothC w0 V q r k S Sd Zp Zd vl es ep :=
  ⟨h.p.under hb, h.d.under hb, h.r, h.zp, h.zd, h.ap, h.b.trans (hb.mono h.b.size)⟩
theorem BothP.under {w0 W V : World} {q r k : Nat} {S : Gs} (h : BothP w0 W q r k S) (hb : Below W.heap.size W V) : BothP w0 V q r k S := by
  obtain ⟨h1, h2, Zp, Zd, vl, es, ep, h3⟩ := h
  exact ⟨h1, h2, Zp, Zd, vl, es, ep, h3.under hb⟩
theorem MidP.under {w0 W V : World} {q r k : Nat} {S S' : Gs} {v : Value} {l : List Int} (h : MidP w0 W q r k S S' v l) (hb : Below W.heap.size W V) : MidP w0 V q r k S S' v l := by
  obtain ⟨h1, h2, Zp, Zd, vl, es, ep, h3, h4, h5⟩ := h
  exact ⟨h1, h2, Zp, Zd, vl, es, ep, h3.under hb, h4.under hb, h5⟩
theorem BothP.below {w0 W : World} {q r k : Nat} {S : Gs} (h : BothP w0 W q r k S) : Below w0.heap.size w0 W := by
  obtain ⟨h1, h2, Zp, Zd, vl, es, ep, h3⟩ := h
  exact h3.b
theorem MidP.below {w0 W : World} {q r k : Nat} {S S' : Gs} {v : Value} {l : List Int} (h : MidP w0 W q r k S S' v l) : Below w0.heap.size w0 W := by
  obtain ⟨h1, h2, Zp, Zd, vl, es, ep, h3, _⟩ := h
  exact h3.b
theorem RelS.nil (N : Nat) : RelS N [] 0 ⟨[], 0⟩ := ⟨rfl, rfl, fun i h => by simp at h⟩
/-- Both anew. -/
theorem BothP.new {w0 W : World} {q : Nat} (h : IS w0 W q ⟨[], 0⟩ (fun _ => False) 0) : BothP w0 (W.alloc (.cells #[.slice none 0 0, .int .i64 0] 29)) q W.heap.size 0 ⟨[], 0⟩ := by
  obtain ⟨Z, h1, h2, h3, h4, h5⟩ := h
  have hb : Below W.heap.size W (W.alloc (.cells #[.slice none 0 0, .int .i64 0] 29)) := (Below.refl _ _).alloc (Nat.le_refl _) _
  have hs := h4.size
  refine ⟨h2, ⟨fun p hp => (by cases hp), fun p hp => (by cases hp)⟩, Z, fun k => k = W.heap.size, .slice none 0 0, [], 0, ⟨h1.under hb, ?_, RelS.nil 0, fun j hj => (h3 j hj).1, fun j hj => by rw [show j = W.heap.size from hj]; exact hs, fun j hj e => by have := h1.z j hj; have e2 : j = W.heap.size := e; omega, h4.trans (hb.mono hs)⟩⟩
  exact ⟨⟨heap_alloc_new _ _, World.ownsRow_nil _ _ _ _, fun e he => (by cases he)⟩, rfl, fun k hk => (by cases hk), by simp [Value.ownBlock], fun e he => (by cases he), List.Pairwise.nil, fun e he => (by cases he), fun e he => (by cases he), fun k hk => by rw [show k = W.heap.size from hk]; simp⟩
theorem BothP.one {w0 W : World} {q r k : Nat} {S : Gs} (h : BothP w0 W q r k S) (hk : k ≤ 100000) (m : Rc) (hrc : RcOk m) (hnm : m.name.size ≤ maxLen) (la : Option Addr) (lc : Nat) (hl : IL w0 (.slice la m.list.length lc) m.list) :
    Calls Try.prog 12 #[.pointer (some ⟨q, 0, none⟩), recV m (.slice la m.list.length lc)] W fun e w1 => ∃ a c, e = .returned (.agg (toldA (applyI S m).2 a c)) ∧ MidP w0 w1 q r k S (applyI S m).1 (.slice a (applyI S m).2.parts.length c) (applyI S m).2.parts := by
  obtain ⟨h1, h2, Zp, Zd, vl, es, ep, h3⟩ := h
  have hb := h3.b
  refine (apply_any h3.p h1 (by omega) m hrc hnm la lc (hl.under hb) (hl.old.mono fun j hj hz => by have := h3.zp j hz; have : j < w0.heap.size := hj; omega)).mono ?_
  rintro e w1 ⟨Z', g1, g2, g3, a, c, rfl, g5, g6⟩
  have hs := g3.size
  have hbs := hb.size
  have hzd : ∀ j, Zd j → j < W.heap.size := h3.d.zlt
  refine ⟨a, c, rfl, h1, h2, Z', Zd, vl, es, ep, ⟨g1, h3.d.keep (fun j hj => g3.block j (hzd j hj) (fun hp => h3.ap j hp hj)) hs, h3.r, fun j hj => ?_, h3.zd, fun j hj hd => ?_, ?_⟩, g5, g6.mono fun j hj hd => ?_⟩
  · rcases g2 j hj with h | h
    · exact h3.zp j h
    · omega
  · rcases g2 j hj with h | h
    · exact h3.ap j h hd
    · have := hzd j hd; omega
  · exact hb.trans (g3.below hbs (fun j hj => h3.zp j hj))
  · have := hzd j hd; have := hj.1; omega
theorem MidP.two {w0 W : World} {q r k : Nat} {S S' : Gs} {v : Value} {l : List Int} (h : MidP w0 W q r k S S' v l) (hk : k ≤ 1000) (m : Rc) (hS : S' = (applyI S m).1) (hrc : RcOk m) (hnm : m.name.size ≤ maxLen) (la : Option Addr) (lc : Nat) (hl : IL w0 (.slice la m.list.length lc) m.list) :
    Calls Try.prog 13 #[.pointer (some ⟨r, 0, none⟩), recV m (.slice la m.list.length lc)] W fun e w1 => ∃ a c, e = .returned (.agg (toldA (applyI S m).2 a c)) ∧ BothP w0 w1 q r (k + 1) S' ∧ IL w1 (.slice a (applyI S m).2.parts.length c) (applyI S m).2.parts ∧ IL w1 v l := by
  obtain ⟨h1, h2, Zp, Zd, vl, es, ep, h3, h4, h5⟩ := h
  have hb := h3.b
  refine (kapply h3.d h3.r h1 (by omega) (by omega) (fun p hp => by have := h2.ever p hp; omega) m hrc la lc (hl.under hb) hnm (hl.old.mono fun j hj hz => by have := h3.zd j hz; have : j < w0.heap.size := hj; omega)).mono ?_
  rintro e w1 ⟨Z', vl', es', ep', g1, g2, g3, g4, a, c, rfl, g6, g7⟩
  have hs := g4.size
  have hbs := hb.size
  have hzp : ∀ j, Zp j → j < W.heap.size := h3.p.z
  refine ⟨a, c, rfl, ⟨?_, ?_, Zp, Z', vl', es', ep', ⟨h3.p.kept (fun j hj => g4.block j (hzp j hj) (fun hd => h3.ap j hj hd)) hs, g1, ?_, h3.zp, fun j hj => ?_, fun j hj hd => ?_, ?_⟩⟩, g6, ?_⟩
  · rw [hS]; exact apply_ok h1 m hrc
  · rw [hS]; exact apply_ever h2 m
  · rw [hS]; exact g2
  · rcases g3 j hj with h | h
    · exact h3.zd j h
    · omega
  · rcases g3 j hd with h | h
    · exact h3.ap j hj h
    · have := hzp j hj; omega
  · exact hb.trans (g4.below hbs (fun j hj => h3.zd j hj))
  · exact h4.kept (X := fun j => ¬ Zd j ∧ j < W.heap.size) (fun hne b off n c e => ⟨h5 hne b off n c e, h4.old hne b off n c e⟩) (fun j hj => g4.block j hj.2 hj.1) hs
theorem BothP.alike {w0 W : World} {q r k : Nat} {S : Gs} (h : BothP w0 W q r k S) (hk : k ≤ 1000) (part : Int) (hp : I64 part) : Calls Try.prog 14 #[.pointer (some ⟨q, 0, none⟩), .pointer (some ⟨r, 0, none⟩), .int .i64 part] W fun e w' => e = .returned (.bool true) ∧ Below W.heap.size W w' := by
  obtain ⟨h1, h2, Zp, Zd, vl, es, ep, h3⟩ := h
  exact alike_any h3.p h1 h2 h3.d.c h3.r (by omega) part hp
end Go.Proofs.Ytdnpbhijjmlecaa

/- What the arguments of a statement are in memory: lists, states, calls. -/
namespace Go.Proofs.Ytdnpbhijjmlecaa
open Go.ChangeShapes Go.WideShapes Go.ChangeAt Go.RowKit
set_option linter.unusedVariables false
set_option linter.unusedSimpArgs false
set_option maxRecDepth 100000

theorem own : ownKnob Try.prog.godebug = none := by kernel_rfl
theorem laidOut : laidOutB Try.prog = true := by kernel_rfl
theorem ocells3 : Try.prog.cellsOf 3 = 1 := by kernel_rfl
theorem ocells30 : Try.prog.cellsOf 30 = 1 := by kernel_rfl
theorem obytes3 : Try.prog.bytesOf 3 = 8 := by kernel_rfl

/-- No data of it is too great. -/
def Light {H : Type} (t : TypeId) (d : DataW H) : Prop := ∀ n ∈ d.weights Try.prog t, n ≤ reachBytes

section
variable {H : Type} {enc : TypeId × Value → H} {w : World}

theorem list_of {fuel : Nat} {cs : List Value} {x : DataW H × List MemPlace} (h : DataW.trod enc Try.prog w 0 (fun _ => true) true fuel 30 cs = some x) (hw : Light 30 x.1) :
    ∃ a l c, cs = [.slice a (List.length l) c] ∧ IL w (.slice a (List.length l) c) l := by
  rcases open_ints Try.underlying30 Try.underlying3 (by kernel_rfl) h with ⟨rfl, _⟩ | ⟨x0, len, cap, zs, rfl, _, hl, hm, hz, rfl, hcell, hwz⟩
  · exact ⟨none, [], 0, rfl, IL.nil _⟩
  · simp only [if_true] at hz
    have hlen : (zs.take len).length = len := by rw [List.length_take]; omega
    have hwt : cap * 8 ≤ reachBytes := by
      have := hw (((lits (H := H) .i64 (zs.take len)).length + (lits (H := H) .i64 (zs.drop len)).length) * Try.prog.bytesOf 3) (by simp [DataW.weights, Try.underlying30])
      rw [obytes3] at this
      simp only [lits, List.length_map, List.length_take, List.length_drop] at this
      have e : min len zs.length + (zs.length - len) = cap := by omega
      rw [e] at this
      exact this
    refine ⟨some x0, zs.take len, cap, by rw [hlen], ?_⟩
    refine ⟨⟨some x0, cap, rfl, by omega, hm, (fun h => by cases h), fun hne => ?_⟩, fun n hn => ?_, ?_⟩
    · obtain ⟨b, off, spot⟩ := x0
      have h0 : 0 < zs.length := by
        rcases Nat.eq_zero_or_pos zs.length with h | h
        · exact absurd (by rw [List.eq_nil_of_length_eq_zero h]; simp) hne
        · exact h
      have hc := hcell 0 h0
      cases spot with
      | some sp =>
        exfalso
        simp [World.cell?, Addr.add] at hc
        split at hc <;> simp_all
      | none =>
        refine ⟨b, off, rfl, World.block_lt_of_cell? w _ hc, fun j hj => ?_⟩
        have hjz : j < zs.length := by rw [List.length_take] at hj; omega
        have h2 := hcell j hjz
        have e : (zs.take len)[j] = zs.getD j 0 := by simp [List.getD, hjz]
        rw [add_at] at h2
        rw [e]
        exact h2
    · exact bounds_i64 (hwz n (List.mem_of_mem_take hn))
    · rw [hlen]
      unfold reachBytes at hwt
      omega

/-- A list among the arguments. -/
theorem row_of {v : Value} {d : DataW H} {p : List MemPlace} {a : Option Addr} {len cap : Nat} (hv : v = .slice a len cap) (h : DataW.Trod enc Try.prog w 0 (fun _ => true) true 30 v d p) (hw : Light 30 d) : ∃ l : List Int, IL w v l := by
  subst hv
  obtain ⟨fuel, hf⟩ := h
  obtain ⟨a', l, c, e, hi⟩ := list_of hf hw
  simp [Value.cells] at e
  obtain ⟨rfl, rfl, rfl⟩ := e
  exact ⟨l, hi⟩
theorem light_of {ts : List TypeId} {ds : List (DataW H)} (h : (DataW.weightsEach Try.prog ts ds).all (· ≤ reachBytes) = true) (j : Nat) {t : TypeId} {d : DataW H} (ht : ts[j]? = some t) (hd : ds[j]? = some d) : Light t d := fun n hn => by
  have := List.all_eq_true.1 h n (DataW.weights_mem_each ht hd n hn)
  simpa using this
end
end Go.Proofs.Ytdnpbhijjmlecaa

/- A script of records among the arguments. -/
namespace Go.Proofs.Ytdnpbhijjmlecaa
open Go.ChangeShapes Go.WideShapes Go.ChangeAt Go.RowKit
set_option linter.unusedVariables false
set_option linter.unusedSimpArgs false
set_option maxRecDepth 100000

theorem cells32 : Try.prog.cellsOf 32 = 8 := by kernel_rfl
theorem ocells9 : Try.prog.cellsOf 9 = 1 := by kernel_rfl
/-- A record in memory. -/
def RecC (w : World) (b o : Nat) (x : Rc) : Prop := ∃ la lc, w.cell? ⟨b, o, none⟩ = some (.int .i64 x.kind) ∧ w.cell? ⟨b, o + 1, none⟩ = some (.int .i64 x.a) ∧ w.cell? ⟨b, o + 2, none⟩ = some (.int .i64 x.b) ∧ w.cell? ⟨b, o + 3, none⟩ = some (.int .i64 x.c) ∧ w.cell? ⟨b, o + 4, none⟩ = some (.int .i64 x.d) ∧
  w.cell? ⟨b, o + 5, none⟩ = some (.string x.name) ∧ w.cell? ⟨b, o + 6, none⟩ = some (.string x.text) ∧ w.cell? ⟨b, o + 7, none⟩ = some (.slice la x.list.length lc) ∧ IL w (.slice la x.list.length lc) x.list ∧ RcOk x ∧ x.name.size ≤ maxLen
theorem RecC.under {w w' : World} {b o : Nat} {x : Rc} (h : RecC w b o x) (hb : Below w.heap.size w w') : RecC w' b o x := by
  obtain ⟨la, lc, h0, h1, h2, h3, h4, h5, h6, h7, h8, h9⟩ := h
  exact ⟨la, lc, kept_cell hb h0, kept_cell hb h1, kept_cell hb h2, kept_cell hb h3, kept_cell hb h4, kept_cell hb h5, kept_cell hb h6, kept_cell hb h7, h8.under hb, h9⟩
/-- A script in memory. -/
structure Script (w : World) (v : Value) (ops : List Rc) : Prop where
  shape : ∃ so cap, v = .slice so ops.length cap ∧ (ops ≠ [] → ∃ b off, so = some ⟨b, off, none⟩ ∧ ∀ i (hi : i < ops.length), RecC w b (off + i * 8) ops[i])
  len : ops.length ≤ maxLen

section
variable {H : Type} {enc : TypeId × Value → H} {w : World}
theorem weightsAll_mem {e : TypeId} : ∀ {l : List (DataW H)} {d : DataW H}, d ∈ l → ∀ n ∈ d.weights Try.prog e, n ∈ DataW.weightsAll Try.prog e l
  | x :: r, d, hd, n, hn => by
    simp only [DataW.weightsAll, List.mem_append]
    rcases List.mem_cons.1 hd with rfl | h
    · exact .inl hn
    · exact .inr (weightsAll_mem h n hn)
theorem light_rec {xs : List (DataW H × List MemPlace)} (hw : Light 32 (.agg (xs.map (·.1)) : DataW H)) (j : Nat) (t : TypeId) (ht : ([3, 3, 3, 3, 3, 9, 9, 30] : List TypeId)[j]? = some t) (y : DataW H × List MemPlace) (hy : xs[j]? = some y) : Light t y.1 := by
  intro n hn
  refine hw n ?_
  have e : (DataW.agg (xs.map (·.1)) : DataW H).weights Try.prog 32 = DataW.weightsEach Try.prog [3, 3, 3, 3, 3, 9, 9, 30] (xs.map (·.1)) := by
    simp only [DataW.weights, Try.underlying32]; rfl
  rw [e]
  exact DataW.weights_mem_each ht (by simp [hy]) n hn
theorem rec_of {fuel : Nat} {cs : List Value} {x : DataW H × List MemPlace} (h : DataW.trod enc Try.prog w 0 (fun _ => true) true fuel 32 cs = some x) (hw : Light 32 x.1) :
    ∃ (o : Rc) (la : Option Addr) (lc : Nat), cs = [.int .i64 o.kind, .int .i64 o.a, .int .i64 o.b, .int .i64 o.c, .int .i64 o.d, .string o.name, .string o.text, .slice la o.list.length lc] ∧ IL w (.slice la o.list.length lc) o.list ∧ RcOk o ∧ o.name.size ≤ maxLen := by
  obtain ⟨xs, n, _, rfl, hl, hlen, hf⟩ := DataW.trod_struct Try.underlying32 h
  rw [cells32] at hl
  match cs, hl, xs, hlen with
  | [c0, c1, c2, c3, c4, c5, c6, c7], _, [y0, y1, y2, y3, y4, y5, y6, y7], _ =>
    have h0 := hf 0 _ rfl
    have h1 := hf 1 _ rfl
    have h2 := hf 2 _ rfl
    have h3 := hf 3 _ rfl
    have h4 := hf 4 _ rfl
    have h5 := hf 5 _ rfl
    have h6 := hf 6 _ rfl
    have h7 := hf 7 _ rfl
    simp only [ocells3, ocells9, ocells30, List.drop_zero, List.drop_succ_cons, List.take_succ_cons, List.take_zero, List.getElem?_cons_zero, List.getElem?_cons_succ] at h0 h1 h2 h3 h4 h5 h6 h7
    obtain ⟨s0, e0, _, w0⟩ := DataW.trod_int Try.underlying3 h0
    obtain ⟨s1, e1, _, w1⟩ := DataW.trod_int Try.underlying3 h1
    obtain ⟨s2, e2, _, w2⟩ := DataW.trod_int Try.underlying3 h2
    obtain ⟨s3, e3, _, w3⟩ := DataW.trod_int Try.underlying3 h3
    obtain ⟨s4, e4, _, w4⟩ := DataW.trod_int Try.underlying3 h4
    obtain ⟨s5, e5, _, w5⟩ := DataW.trod_string Try.underlying9 h5
    obtain ⟨s6, e6, _, w6⟩ := DataW.trod_string Try.underlying9 h6
    obtain ⟨a7, l7, k7, e7, i7⟩ := list_of h7 (light_rec hw 7 30 rfl _ rfl)
    simp [ocells3, ocells9, ocells30] at e0 e1 e2 e3 e4 e5 e6 e7
    subst e0 e1 e2 e3 e4 e5 e6 e7
    exact ⟨⟨s0, s1, s2, s3, s4, s5, s6, l7⟩, a7, k7, rfl, i7, ⟨bounds_i64 w0, bounds_i64 w1, bounds_i64 w2, bounds_i64 w3, bounds_i64 w4⟩, by simpa [Lit.wf] using w5⟩
theorem cellsUp {base : Nat} {a : Addr} {n : Nat} {cs : List Value} (h : w.cells? base a n = some cs) : cs.length = n ∧ ∀ (i : Nat) (c : Value), cs[i]? = some c → w.cell? (a.add i) = some c := by
  unfold World.cells? at h
  split at h
  · have step : ∀ (r : List Nat) (z : List Value), List.mapM (fun i => w.cell? (a.add i)) r = some z → z.length = r.length ∧ ∀ (i j : Nat) (c : Value), r[i]? = some j → z[i]? = some c → w.cell? (a.add j) = some c := by
      intro r
      induction r with
      | nil => intro z hz; have e : z = [] := by simpa using hz.symm
               subst e; exact ⟨rfl, fun i j c hi => by simp at hi⟩
      | cons x r ih =>
        intro z hz
        rw [List.mapM_cons] at hz
        obtain ⟨c, h1, h2⟩ := Option.bind_eq_some_iff.1 hz
        obtain ⟨t, h3, h4⟩ := Option.bind_eq_some_iff.1 h2
        have e : z = c :: t := (Option.some.inj h4).symm
        subst e
        obtain ⟨i1, i2⟩ := ih t h3
        refine ⟨by simp [i1], fun i j d hi hd => ?_⟩
        cases i with
        | zero => simp at hi hd; subst hi; subst hd; exact h1
        | succ i => exact i2 i j d (by simpa using hi) (by simpa using hd)
    obtain ⟨s1, s2⟩ := step _ _ h
    refine ⟨by simpa using s1, fun i c hi => s2 i i c ?_ hi⟩
    have := (List.getElem?_eq_some_iff.1 hi).1
    rw [s1] at this
    rw [List.getElem?_range (by simpa using this)]
  · cases h
theorem add_add (b o i j : Nat) : ((⟨b, o, none⟩ : Addr).add i).add j = ⟨b, o + i + j, none⟩ := by rw [add_at, add_at]
/-- A script among the arguments. -/
theorem script_of {v : Value} {d : DataW H} {p : List MemPlace} {a : Option Addr} {len cap : Nat} (hv : v = .slice a len cap) (h : DataW.Trod enc Try.prog w 0 (fun _ => true) true 22 v d p) (hw : Light 22 d) : ∃ ops : List Rc, Script w v ops := by
  subst hv
  obtain ⟨fuel, hf⟩ := h
  rcases Deep.open_slice Try.underlying22 hf with ⟨hcs, _⟩ | ⟨x, l, c, m, n, D, Pl, hcs, _, hl, hm, hmm, hx2, hx⟩
  · simp [Value.cells] at hcs
    obtain ⟨rfl, rfl, rfl⟩ := hcs
    exact ⟨[], ⟨none, 0, rfl, fun h => absurd rfl h⟩, Nat.zero_le _⟩
  · simp [Value.cells] at hcs
    obtain ⟨rfl, rfl, rfl⟩ := hcs
    simp only [if_true] at hmm
    subst hmm
    have hd : d = .slice ((List.range len).map D) ((List.range (m - len)).map fun j => D (len + j)) := congrArg Prod.fst hx2
    have hlt : ∀ i, i < len → Light 32 (D i) := fun i hi k hk => by
      refine hw k ?_
      rw [hd]
      simp only [DataW.weights, Try.underlying22, List.mem_cons, List.mem_append]
      exact .inr (.inl (weightsAll_mem (List.mem_map.2 ⟨i, List.mem_range.2 hi, rfl⟩) k hk))
    rw [cells32] at hx
    by_cases h0 : len = 0
    · subst h0
      exact ⟨[], ⟨some x, m, rfl, fun h => absurd rfl h⟩, Nat.zero_le _⟩
    · obtain ⟨b, off, spot⟩ := x
      have hspot : spot = none := by
        obtain ⟨cs', h1, h2⟩ := hx 0 (by omega)
        obtain ⟨o, la, lc, rfl, _⟩ := rec_of h2 (hlt 0 (by omega))
        have hc := (cellsUp h1).2 0 _ rfl
        have := World.cell?_spot hc
        simpa [Addr.add] using this
      subst hspot
      have hall : ∀ i, i < len → ∃ o : Rc, RecC w b (off + i * 8) o := fun i hi => by
        obtain ⟨cs', h1, h2⟩ := hx i (by omega)
        obtain ⟨o, la, lc, rfl, j1, j2, j3⟩ := rec_of h2 (hlt i hi)
        have hc := (cellsUp h1).2
        have g0 := hc 0 _ rfl
        have g1 := hc 1 _ rfl
        have g2 := hc 2 _ rfl
        have g3 := hc 3 _ rfl
        have g4 := hc 4 _ rfl
        have g5 := hc 5 _ rfl
        have g6 := hc 6 _ rfl
        have g7 := hc 7 _ rfl
        rw [add_add] at g0 g1 g2 g3 g4 g5 g6 g7
        exact ⟨o, la, lc, g0, g1, g2, g3, g4, g5, g6, g7, j1, j2, j3⟩
      have hV : ∃ V : Nat → Rc, ∀ i, i < len → RecC w b (off + i * 8) (V i) :=
        ⟨fun i => if hi : i < len then Classical.choose (hall i hi) else ⟨0, 0, 0, 0, 0, ⟨#[]⟩, ⟨#[]⟩, []⟩, fun i hi => by
          simp only [hi, dite_true]
          exact Classical.choose_spec (hall i hi)⟩
      obtain ⟨V, hV⟩ := hV
      refine ⟨(List.range len).map V, ⟨some ⟨b, off, none⟩, m, by simp, fun _ => ⟨b, off, rfl, fun i hi => ?_⟩⟩, by simp; omega⟩
      simp only [List.length_map, List.length_range] at hi
      simp only [List.getElem_map, List.getElem_range]
      exact hV i (by omega)
end
end Go.Proofs.Ytdnpbhijjmlecaa

/- Records, one by one: the walk. -/
namespace Go.Proofs.Ytdnpbhijjmlecaa
open Go.RowKit Go.Maps
set_option maxRecDepth 100000
set_option linter.unusedSimpArgs false
set_option linter.unusedVariables false

theorem rec_same (m : Rc) (v : Value) : recV m v = .agg #[.int .i64 m.kind, .int .i64 m.a, .int .i64 m.b, .int .i64 m.c, .int .i64 m.d, .string m.name, .string m.text, v] := rfl
set_option maxHeartbeats 6400000 in
theorem plays_walk {w : World} {v : Value} {ops : List Rc} {part : Int} (h : Script w v ops) (hp : I64 part) : Calls Try.prog 3 #[v, .int .i64 part] w fun e w' => e = .returned (.bool true) ∧ Below w.heap.size w w' := by
  have HSH := hid (shown_any w)
  have HO := hid h
  have HPT := hid hp
  obtain ⟨⟨sa, sc, rfl, hsc⟩, hlen⟩ := h
  have HSC := hid hsc
  have hlen' : (ops.length : Int) ≤ 9223372036854775807 := by unfold maxLen at hlen; omega
  clear hsc hp
  go_enter Try.func3, Try.ntmps3
  go_wp2_with fail
  refine HSH.out.mono ?_
  rintro e W1 ⟨rfl, hbs⟩
  have HBS := hid hbs
  clear hbs HSH
  have HNEW := hid (IS.new (w := W1))
  go_wp2_with fail
  refine HNEW.out.mono ?_
  rintro e W0 ⟨q, rfl, hi0'⟩
  have HB0 := hid (BothP.new hi0')
  clear hi0' HNEW
  unfold ptr
  go_upto_region 4 with fail
  generalize W0.alloc (.cells #[.slice none 0 0, .int .i64 0] 29) = W2 at *
  generalize W0.heap.size = r at *
  go_wp2_with fail
  go_loopg [8, 9, 10] 200 (fun kx s8 s9 s10 wr => ∃ (i k : Nat) (S : Gs), k ≤ i ∧ i ≤ 200 ∧ 200 - i ≤ kx ∧ i ≤ ops.length ∧ s8 = .int .i64 (i : Int) ∧ Hid (BothP W1 wr q r k S))
  case atStart => exact ⟨0, 0, ⟨[], 0⟩, by omega, by omega, by omega, by omega, rfl, HB0.out⟩
  case round =>
    obtain ⟨i, k, S, hki, hi2, hix, hil, rfl, HB⟩ := hrel
    have hbk := HB.out.below
    have HBK := hid hbk
    clear HB0
    by_cases hlt : i < ops.length
    · have hlt' : (i : Int) < (ops.length : Int) := by omega
      have hi0 : (0 : Int) ≤ (i : Int) := by omega
      by_cases h200 : i < 200
      · have h200' : (i : Int) < 200 := by omega
        obtain ⟨sb, so, hsa, hrec⟩ := HSC.out (fun e => by rw [e] at hlt; simp at hlt)
        subst hsa
        obtain ⟨la, lc, hc⟩ := hrec i hlt
        obtain ⟨g0, g1, g2, g3, g4, g5, g6, g7, g8, g9, g10⟩ := hc
        have hBW : Below w.heap.size w wr := HBS.out.trans (HBK.out.mono HBS.out.size)
        have HBWr := hid hBW
        have HIL := hid (g8.under HBS.out)
        have HRC := hid g9
        have HNM := hid g10
        have HCS : Hid (∀ V, Below w.heap.size w V → V.cell? ⟨sb, so + i * 8, none⟩ = some (.int .i64 ops[i].kind) ∧ V.cell? ⟨sb, so + i * 8 + 1, none⟩ = some (.int .i64 ops[i].a) ∧ V.cell? ⟨sb, so + i * 8 + 2, none⟩ = some (.int .i64 ops[i].b) ∧ V.cell? ⟨sb, so + i * 8 + 3, none⟩ = some (.int .i64 ops[i].c) ∧ V.cell? ⟨sb, so + i * 8 + 4, none⟩ = some (.int .i64 ops[i].d) ∧ V.cell? ⟨sb, so + i * 8 + 5, none⟩ = some (.string ops[i].name) ∧ V.cell? ⟨sb, so + i * 8 + 6, none⟩ = some (.string ops[i].text) ∧ V.cell? ⟨sb, so + i * 8 + 7, none⟩ = some (.slice la ops[i].list.length lc)) := fun V hV => ⟨kept_cell hV g0, kept_cell hV g1, kept_cell hV g2, kept_cell hV g3, kept_cell hV g4, kept_cell hV g5, kept_cell hV g6, kept_cell hV g7⟩
        clear g0 g1 g2 g3 g4 g5 g6 g7 g8 g9 g10 hrec
        generalize ops[i] = m at *
        obtain ⟨f0, f1, f2, f3, f4, f5, f6, f7⟩ := HCS.out wr hBW
        have hnml : m.name.size ≤ maxLen := HNM.out
        have hlf := HIL.out.few
        have HKI := hid hki
        by_cases h40 : (40 : Int) < (m.list.length : Int)
        · clear hBW hbk
          go_wp2_with fail
          go_roundg (200 - (i + 1))
          case measure => omega
          case rel => exact ⟨i + 1, k, S, by omega, by omega, Nat.le_refl _, by omega, by go_num, HB.out⟩
        · by_cases h100 : (100 : Int) < (m.name.size : Int)
          · clear hBW hbk
            go_wp2_with fail
            go_roundg (200 - (i + 1))
            case measure => omega
            case rel => exact ⟨i + 1, k, S, by omega, by omega, Nat.le_refl _, by omega, by go_num, HB.out⟩
          · obtain ⟨t, ht⟩ : ∃ t, t = (applyI S m).2 := ⟨_, rfl⟩
            obtain ⟨S', hS'⟩ : ∃ S', S' = (applyI S m).1 := ⟨_, rfl⟩
            have HONE : Hid (∀ V, Below wr.heap.size wr V → Calls Try.prog 12 #[.pointer (some ⟨q, 0, none⟩), recV m (.slice la m.list.length lc)] V fun e w1 => ∃ a c, e = .returned (.agg (toldA t a c)) ∧ MidP W1 w1 q r k S S' (.slice a t.parts.length c) t.parts) := fun V hV => by
              rw [ht, hS']; exact (HB.out.under hV).one (by omega) m HRC.out hnml la lc HIL.out
            have HTWO : Hid (∀ V a c, MidP W1 V q r k S S' (.slice a t.parts.length c) t.parts → Calls Try.prog 13 #[.pointer (some ⟨r, 0, none⟩), recV m (.slice la m.list.length lc)] V fun e w1 => ∃ b d, e = .returned (.agg (toldA t b d)) ∧ BothP W1 w1 q r (k + 1) S' ∧ IL w1 (.slice b t.parts.length d) t.parts ∧ IL w1 (.slice a t.parts.length c) t.parts) := fun V a c hM => by
              rw [ht]; rw [ht] at hM; exact hM.two (by omega) m hS' HRC.out hnml la lc HIL.out
            clear ht hS' hBW hbk
            unfold recV at HONE HTWO
            unfold toldA at HONE HTWO
            go_wp2_with fail
            go_region_held3 (fun V => V.cell? ⟨sb, so + i * 8, none⟩ = some (.int .i64 m.kind) ∧ V.cell? ⟨sb, so + i * 8 + 1, none⟩ = some (.int .i64 m.a) ∧ V.cell? ⟨sb, so + i * 8 + 2, none⟩ = some (.int .i64 m.b) ∧ V.cell? ⟨sb, so + i * 8 + 3, none⟩ = some (.int .i64 m.c) ∧ V.cell? ⟨sb, so + i * 8 + 4, none⟩ = some (.int .i64 m.d) ∧ V.cell? ⟨sb, so + i * 8 + 5, none⟩ = some (.string m.name) ∧ V.cell? ⟨sb, so + i * 8 + 6, none⟩ = some (.string m.text) ∧ V.cell? ⟨sb, so + i * 8 + 7, none⟩ = some (.slice la m.list.length lc)) (go_keep)
              (first
                | (go_at_call 12; refine (HONE.out _ (show Below wr.heap.size wr _ by repeat (first | exact Below.refl _ _ | apply Below.drew))).mono ?_; rintro e w5 ⟨ta, tc, rfl, hM⟩; have HM := hid hM; clear hM f0 f1 f2 f3 f4 f5 f6 f7; obtain ⟨f0, f1, f2, f3, f4, f5, f6, f7⟩ := HCS.out w5 (HBS.out.trans (HM.out.below.mono HBS.out.size)))
                | (go_at_call 13; refine (HTWO.out _ ta tc (HM.out.under (show Below w5.heap.size w5 _ by repeat (first | exact Below.refl _ _ | apply Below.drew)))).mono ?_; rintro e w6 ⟨ua, uc, rfl, hN, hil6, hil7⟩; have HN := hid hN; have HI6 := hid hil6; have HI7 := hid hil7; clear hN hil6 hil7 f0 f1 f2 f3 f4 f5 f6 f7; obtain ⟨f0, f1, f2, f3, f4, f5, f6, f7⟩ := HCS.out w6 (HBS.out.trans (HN.out.below.mono HBS.out.size)))
                | (go_at_call 11; refine (same_any t ta ua tc uc (HI7.out.under (show Below w6.heap.size w6 _ by repeat (first | exact Below.refl _ _ | apply Below.drew))) (HI6.out.under (show Below w6.heap.size w6 _ by repeat (first | exact Below.refl _ _ | apply Below.drew)))).mono ?_; rintro e w7 ⟨rfl, hb7⟩; have HN7 := hid ((HN.out.under (show Below w6.heap.size w6 _ by repeat (first | exact Below.refl _ _ | apply Below.drew))).under hb7); clear hb7 f0 f1 f2 f3 f4 f5 f6 f7; obtain ⟨f0, f1, f2, f3, f4, f5, f6, f7⟩ := HCS.out w7 (HBS.out.trans (HN7.out.below.mono HBS.out.size)))
                | fail)
            clear f0 f1 f2 f3 f4 f5 f6 f7
            go_wp2_with fail
            refine ((HN7.out.under (show Below w7.heap.size w7 _ by repeat (first | exact Below.refl _ _ | apply Below.drew))).alike (by omega) part HPT.out).mono ?_
            rintro e w8 ⟨rfl, hb8⟩
            have HN8 := hid ((HN7.out.under (show Below w7.heap.size w7 _ by repeat (first | exact Below.refl _ _ | apply Below.drew))).under hb8)
            clear hb8
            go_wp2_with fail
            go_roundg (200 - (i + 1))
            case measure => omega
            case rel => exact ⟨i + 1, k + 1, S', by omega, by omega, Nat.le_refl _, by omega, by go_num, HN8.out⟩
      · have h200' : ¬ (i : Int) < 200 := by omega
        have HBW := hid (HBS.out.trans (HBK.out.mono HBS.out.size))
        clear hbk
        go_wp2_with fail
        go_ret
        exact ⟨rfl, HBW.out⟩
    · have hlt' : ¬ (i : Int) < (ops.length : Int) := by omega
      have HBW := hid (HBS.out.trans (HBK.out.mono HBS.out.size))
      clear hbk
      go_wp2_with fail
      go_ret
      exact ⟨rfl, HBW.out⟩
end Go.Proofs.Ytdnpbhijjmlecaa

