/- A partition that is none. -/
import Derived.Test.YtcffomhcmilcpaaGreatK29
import Derived.Test.YtcffomhcmilcpaaGreatK28
import Derived.Test.YtcffomhcmilcpaaGreatK6
import Derived.ProofKit
import Derived.OpenShut
import Derived.ShutString
import Derived.ChangeOld
import Derived.SliceStrings
import Derived.SizedLaws
import Derived.Deep.Slices
import Derived.Lib.SmallJoins
namespace Go.Proofs.YtcffomhcmilcpaaGreat
open Go.RowKit Go.Maps
set_option maxRecDepth 100000
set_option linter.unusedSimpArgs false
set_option linter.unusedVariables false
set_option maxHeartbeats 1600000 in
theorem part_no {w : World} {Z : Nat → Prop} {q : Nat} {I : Im} (hi : Img w Z q I) (n : Int) (hn : I64 n) (h : upB n I.parts.length = false) : Calls Tryz.prog 30 #[.pointer (some ⟨q, 0, none⟩), .int .i64 n] w fun e w' => e = .returned (.tuple #[zX.1, .bool false]) ∧ Below w.heap.size w w' := by
  obtain ⟨L, b, vt, vp, ve, ps, h1, hz1, hz2, hz3⟩ := hi
  have HPL := hid h1.plen
  have hf := h1.ok.few
  obtain ⟨oa, cap, hvp, _, _, _, hat⟩ := row_shape h1.parts
  rw [← HPL.out] at hvp hat
  subst hvp
  have HU := hid (fun V => upTo_any n (I.parts.length : Int) V hn (by unfold I64; omega))
  rw [h] at HU
  have hqlt : q < w.heap.size := h1.lt (.inl rfl)
  have hbA : Below w.heap.size w (w.alloc (.cells #[.int .i64 0, .int .i64 0, .int .i64 0, .int .i64 0, .slice none 0 0, .slice none 0 0, .slice none 0 0, .slice none 0 0, .int .i64 0] 54)) := (Below.refl _ _).alloc (Nat.le_refl _) _
  have HBA := hid hbA
  have HB := hid (heap_alloc_new w (.cells #[.int .i64 0, .int .i64 0, .int .i64 0, .int .i64 0, .slice none 0 0, .slice none 0 0, .slice none 0 0, .slice none 0 0, .int .i64 0] 54))
  have d3 := (h1.under hbA).c3
  clear hz1 hz2 hz3 h1 h hbA hat
  go_enter Tryz.func30, Tryz.ntmps30
  go_upto_region 1 with fail
  generalize w.alloc (.cells #[.int .i64 0, .int .i64 0, .int .i64 0, .int .i64 0, .slice none 0 0, .slice none 0 0, .slice none 0 0, .slice none 0 0, .int .i64 0] 54) = W at *
  go_wp2_with fail
  refine (HU.out _).mono ?_
  rintro e w9 ⟨rfl, rfl⟩
  have s0 := cell_blk HB.out 0 _ rfl
  have s1 := cell_blk HB.out 1 _ rfl
  have s2 := cell_blk HB.out 2 _ rfl
  have s3 := cell_blk HB.out 3 _ rfl
  have s4 := cell_blk HB.out 4 _ rfl
  have s5 := cell_blk HB.out 5 _ rfl
  have s6 := cell_blk HB.out 6 _ rfl
  have s7 := cell_blk HB.out 7 _ rfl
  have s8 := cell_blk HB.out 8 _ rfl
  have f0 := fun j => frz_blk HB.out j
  go_wp2_with fail
  clear s0 s1 s2 s3 s4 s5 s6 s7 s8 f0
  obtain ⟨N, hN⟩ : ∃ N, N = puts W w.heap.size 0 [.int .i64 0, .int .i64 0, .int .i64 0, .int .i64 0, .slice none 0 0, .slice none 0 0, .slice none 0 0, .slice none 0 0, .int .i64 0] := ⟨_, rfl⟩
  have HR : PutsR W N w.heap.size 0 [.int .i64 0, .int .i64 0, .int .i64 0, .int .i64 0, .slice none 0 0, .slice none 0 0, .slice none 0 0, .slice none 0 0, .int .i64 0] := by rw [hN]; exact puts_all _ _ _ _
  show bodyPost Tryz.prog Tryz.f30 _ Exit.ret _ (puts W w.heap.size 0 [.int .i64 0, .int .i64 0, .int .i64 0, .int .i64 0, .slice none 0 0, .slice none 0 0, .slice none 0 0, .slice none 0 0, .int .i64 0])
  rw [← hN]
  clear hN
  have hx := HR.box9 HB.out rfl
  have s0 := cell_blk hx 0 _ rfl
  have s1 := cell_blk hx 1 _ rfl
  have s2 := cell_blk hx 2 _ rfl
  have s3 := cell_blk hx 3 _ rfl
  have s4 := cell_blk hx 4 _ rfl
  have s5 := cell_blk hx 5 _ rfl
  have s6 := cell_blk hx 6 _ rfl
  have s7 := cell_blk hx 7 _ rfl
  have s8 := cell_blk hx 8 _ rfl
  exact bodyPost_ret (v := .tuple #[.agg #[.int .i64 0, .int .i64 0, .int .i64 0, .int .i64 0, .slice none 0 0, .slice none 0 0, .slice none 0 0, .slice none 0 0, .int .i64 0], .bool false]) (by simp [results, Tryz.results30, go_sem, s0, s1, s2, s3, s4, s5, s6, s7, s8]) rfl ⟨rfl, HR.below HBA.out (Nat.le_refl _)⟩
end Go.Proofs.YtcffomhcmilcpaaGreat

/- What an image of a call's own is asked. -/
namespace Go.Proofs.YtcffomhcmilcpaaGreat
open Go.RowKit Go.Maps
set_option linter.unusedVariables false
theorem IS.find_no {w W : World} {q : Nat} {I : Im} {X : Nat → Prop} (h : IS w W q I X) (s : ByteArray) (hn : hasT I.tops s = false) : Calls Tryz.prog 29 #[.pointer (some ⟨q, 0, none⟩), .string s] W fun e w' => e = .returned (.slice none 0 0) ∧ Below W.heap.size W w' ∧ IS w w' q I X := by
  obtain ⟨⟨Z, h1, h2⟩, h3, h4⟩ := h
  refine (Go.Proofs.YtcffomhcmilcpaaGreat.find_no h1 s hn).mono ?_
  rintro e w' ⟨rfl, hb⟩
  exact ⟨rfl, hb, IS.under ⟨⟨Z, h1, h2⟩, h3, h4⟩ hb⟩
theorem IS.find_yes {w W : World} {q : Nat} {I : Im} {X : Nat → Prop} (h : IS w W q I X) (s : ByteArray) (hn : hasT I.tops s = true) : Calls Tryz.prog 29 #[.pointer (some ⟨q, 0, none⟩), .string s] W fun e w' => (∃ v' t, e = .returned v' ∧ t ∈ I.tops ∧ sameN t.name s = true ∧ IL w' v' (idsT t) ∧ In (fun b => W.heap.size ≤ b) v' (idsT t)) ∧ Below W.heap.size W w' ∧ IS w w' q I X := by
  obtain ⟨⟨Z, h1, h2⟩, h3, h4⟩ := h
  refine (Go.Proofs.YtcffomhcmilcpaaGreat.find_yes h1 s hn).mono ?_
  rintro e w' ⟨v', t, rfl, a, b, c, d, hb⟩
  exact ⟨⟨v', t, rfl, a, b, c, d⟩, hb, IS.under ⟨⟨Z, h1, h2⟩, h3, h4⟩ hb⟩
theorem IS.parts {w W : World} {q : Nat} {I : Im} {X : Nat → Prop} (h : IS w W q I X) : Calls Tryz.prog 23 #[.pointer (some ⟨q, 0, none⟩)] W fun e w' => (∃ v, e = .returned v ∧ PartsAt W.heap.size w' v I.parts) ∧ Below W.heap.size W w' ∧ IS w w' q I X := by
  obtain ⟨⟨Z, h1, h2⟩, h3, h4⟩ := h
  refine (parts_any h1).mono ?_
  rintro e w' ⟨v, rfl, a, hb⟩
  exact ⟨⟨v, rfl, a⟩, hb, IS.under ⟨⟨Z, h1, h2⟩, h3, h4⟩ hb⟩
theorem IS.part_no {w W : World} {q : Nat} {I : Im} {X : Nat → Prop} (h : IS w W q I X) (n : Int) (hn : I64 n) (hu : upB n I.parts.length = false) : Calls Tryz.prog 30 #[.pointer (some ⟨q, 0, none⟩), .int .i64 n] W fun e w' => e = .returned (.tuple #[zX.1, .bool false]) ∧ Below W.heap.size W w' ∧ IS w w' q I X := by
  obtain ⟨⟨Z, h1, h2⟩, h3, h4⟩ := h
  refine (Go.Proofs.YtcffomhcmilcpaaGreat.part_no h1 n hn hu).mono ?_
  rintro e w' ⟨rfl, hb⟩
  exact ⟨rfl, hb, IS.under ⟨⟨Z, h1, h2⟩, h3, h4⟩ hb⟩
end Go.Proofs.YtcffomhcmilcpaaGreat

/- What the arguments of a statement are in memory: lists, states, calls. -/
namespace Go.Proofs.YtcffomhcmilcpaaGreat
open Go.ChangeShapes Go.WideShapes Go.ChangeAt Go.RowKit
set_option linter.unusedVariables false
set_option linter.unusedSimpArgs false
set_option maxRecDepth 100000

theorem own : ownKnob Tryz.prog.godebug = none := by kernel_rfl
theorem laidOut : laidOutB Tryz.prog = true := by kernel_rfl
theorem ocells3 : Tryz.prog.cellsOf 3 = 1 := by kernel_rfl
theorem ocells23 : Tryz.prog.cellsOf 23 = 1 := by kernel_rfl
theorem obytes3 : Tryz.prog.bytesOf 3 = 8 := by kernel_rfl

/-- No data of it is too great. -/
def Light {H : Type} (t : TypeId) (d : DataW H) : Prop := ∀ n ∈ d.weights Tryz.prog t, n ≤ reachBytes

section
variable {H : Type} {enc : TypeId × Value → H} {w : World}

theorem list_of {fuel : Nat} {cs : List Value} {x : DataW H × List MemPlace} (h : DataW.trod enc Tryz.prog w 0 (fun _ => true) true fuel 23 cs = some x) (hw : Light 23 x.1) :
    ∃ a l c, cs = [.slice a (List.length l) c] ∧ IL w (.slice a (List.length l) c) l := by
  rcases open_ints Tryz.underlying23 Tryz.underlying3 (by kernel_rfl) h with ⟨rfl, _⟩ | ⟨x0, len, cap, zs, rfl, _, hl, hm, hz, rfl, hcell, hwz⟩
  · exact ⟨none, [], 0, rfl, IL.nil _⟩
  · simp only [if_true] at hz
    have hlen : (zs.take len).length = len := by rw [List.length_take]; omega
    have hwt : cap * 8 ≤ reachBytes := by
      have := hw (((lits (H := H) .i64 (zs.take len)).length + (lits (H := H) .i64 (zs.drop len)).length) * Tryz.prog.bytesOf 3) (by simp [DataW.weights, Tryz.underlying23])
      rw [obytes3] at this
      simp only [lits, List.length_map, List.length_take, List.length_drop] at this
      have e : min len zs.length + (zs.length - len) = cap := by omega
      rw [e] at this
      exact this
    refine ⟨some x0, zs.take len, cap, by rw [hlen], ?_⟩
    refine ⟨⟨some x0, cap, rfl, by omega, hm, (fun h => by cases h), fun hne => ?_⟩, fun n hn => ?_, ?_⟩
    · obtain ⟨b, off, spot⟩ := x0
      have h0 : 0 < zs.length := by
        rcases Nat.eq_zero_or_pos zs.length with h | h
        · exact absurd (by rw [List.eq_nil_of_length_eq_zero h]; simp) hne
        · exact h
      have hc := hcell 0 h0
      cases spot with
      | some sp =>
        exfalso
        simp [World.cell?, Addr.add] at hc
        split at hc <;> simp_all
      | none =>
        refine ⟨b, off, rfl, World.block_lt_of_cell? w _ hc, fun j hj => ?_⟩
        have hjz : j < zs.length := by rw [List.length_take] at hj; omega
        have h2 := hcell j hjz
        have e : (zs.take len)[j] = zs.getD j 0 := by simp [List.getD, hjz]
        rw [add_at] at h2
        rw [e]
        exact h2
    · exact bounds_i64 (hwz n (List.mem_of_mem_take hn))
    · rw [hlen]
      unfold reachBytes at hwt
      omega

/-- A list among the arguments. -/
theorem row_of {v : Value} {d : DataW H} {p : List MemPlace} {a : Option Addr} {len cap : Nat} (hv : v = .slice a len cap) (h : DataW.Trod enc Tryz.prog w 0 (fun _ => true) true 23 v d p) (hw : Light 23 d) : ∃ l : List Int, IL w v l := by
  subst hv
  obtain ⟨fuel, hf⟩ := h
  obtain ⟨a', l, c, e, hi⟩ := list_of hf hw
  simp [Value.cells] at e
  obtain ⟨rfl, rfl, rfl⟩ := e
  exact ⟨l, hi⟩
theorem light_of {ts : List TypeId} {ds : List (DataW H)} (h : (DataW.weightsEach Tryz.prog ts ds).all (· ≤ reachBytes) = true) (j : Nat) {t : TypeId} {d : DataW H} (ht : ts[j]? = some t) (hd : ds[j]? = some d) : Light t d := fun n hn => by
  have := List.all_eq_true.1 h n (DataW.weights_mem_each ht hd n hn)
  simpa using this
end
end Go.Proofs.YtcffomhcmilcpaaGreat

/- A script of records among the arguments. -/
namespace Go.Proofs.YtcffomhcmilcpaaGreat
open Go.ChangeShapes Go.WideShapes Go.ChangeAt Go.RowKit
set_option linter.unusedVariables false
set_option linter.unusedSimpArgs false
set_option maxRecDepth 100000

theorem cells34 : Tryz.prog.cellsOf 34 = 8 := by kernel_rfl
theorem ocells9 : Tryz.prog.cellsOf 9 = 1 := by kernel_rfl
/-- A record in memory. -/
def RecC (w : World) (b o : Nat) (x : Rc) : Prop := ∃ la lc, w.cell? ⟨b, o, none⟩ = some (.int .i64 x.kind) ∧ w.cell? ⟨b, o + 1, none⟩ = some (.int .i64 x.a) ∧ w.cell? ⟨b, o + 2, none⟩ = some (.int .i64 x.b) ∧ w.cell? ⟨b, o + 3, none⟩ = some (.int .i64 x.c) ∧ w.cell? ⟨b, o + 4, none⟩ = some (.int .i64 x.d) ∧
  w.cell? ⟨b, o + 5, none⟩ = some (.string x.name) ∧ w.cell? ⟨b, o + 6, none⟩ = some (.string x.text) ∧ w.cell? ⟨b, o + 7, none⟩ = some (.slice la x.list.length lc) ∧ IL w (.slice la x.list.length lc) x.list ∧ RcOk x ∧ x.name.size ≤ maxLen
theorem RecC.under {w w' : World} {b o : Nat} {x : Rc} (h : RecC w b o x) (hb : Below w.heap.size w w') : RecC w' b o x := by
  obtain ⟨la, lc, h0, h1, h2, h3, h4, h5, h6, h7, h8, h9⟩ := h
  exact ⟨la, lc, kept_cell hb h0, kept_cell hb h1, kept_cell hb h2, kept_cell hb h3, kept_cell hb h4, kept_cell hb h5, kept_cell hb h6, kept_cell hb h7, h8.under hb, h9⟩
/-- A script in memory. -/
structure Script (w : World) (v : Value) (ops : List Rc) : Prop where
  shape : ∃ so cap, v = .slice so ops.length cap ∧ (ops ≠ [] → ∃ b off, so = some ⟨b, off, none⟩ ∧ ∀ i (hi : i < ops.length), RecC w b (off + i * 8) ops[i])
  len : ops.length ≤ maxLen

section
variable {H : Type} {enc : TypeId × Value → H} {w : World}
theorem weightsAll_mem {e : TypeId} : ∀ {l : List (DataW H)} {d : DataW H}, d ∈ l → ∀ n ∈ d.weights Tryz.prog e, n ∈ DataW.weightsAll Tryz.prog e l
  | x :: r, d, hd, n, hn => by
    simp only [DataW.weightsAll, List.mem_append]
    rcases List.mem_cons.1 hd with rfl | h
    · exact .inl hn
    · exact .inr (weightsAll_mem h n hn)
theorem light_rec {xs : List (DataW H × List MemPlace)} (hw : Light 34 (.agg (xs.map (·.1)) : DataW H)) (j : Nat) (t : TypeId) (ht : ([3, 3, 3, 3, 3, 9, 9, 23] : List TypeId)[j]? = some t) (y : DataW H × List MemPlace) (hy : xs[j]? = some y) : Light t y.1 := by
  intro n hn
  refine hw n ?_
  have e : (DataW.agg (xs.map (·.1)) : DataW H).weights Tryz.prog 34 = DataW.weightsEach Tryz.prog [3, 3, 3, 3, 3, 9, 9, 23] (xs.map (·.1)) := by
    simp only [DataW.weights, Tryz.underlying34]; rfl
  rw [e]
  exact DataW.weights_mem_each ht (by simp [hy]) n hn
theorem rec_of {fuel : Nat} {cs : List Value} {x : DataW H × List MemPlace} (h : DataW.trod enc Tryz.prog w 0 (fun _ => true) true fuel 34 cs = some x) (hw : Light 34 x.1) :
    ∃ (o : Rc) (la : Option Addr) (lc : Nat), cs = [.int .i64 o.kind, .int .i64 o.a, .int .i64 o.b, .int .i64 o.c, .int .i64 o.d, .string o.name, .string o.text, .slice la o.list.length lc] ∧ IL w (.slice la o.list.length lc) o.list ∧ RcOk o ∧ o.name.size ≤ maxLen := by
  obtain ⟨xs, n, _, rfl, hl, hlen, hf⟩ := DataW.trod_struct Tryz.underlying34 h
  rw [cells34] at hl
  match cs, hl, xs, hlen with
  | [c0, c1, c2, c3, c4, c5, c6, c7], _, [y0, y1, y2, y3, y4, y5, y6, y7], _ =>
    have h0 := hf 0 _ rfl
    have h1 := hf 1 _ rfl
    have h2 := hf 2 _ rfl
    have h3 := hf 3 _ rfl
    have h4 := hf 4 _ rfl
    have h5 := hf 5 _ rfl
    have h6 := hf 6 _ rfl
    have h7 := hf 7 _ rfl
    simp only [ocells3, ocells9, ocells23, List.drop_zero, List.drop_succ_cons, List.take_succ_cons, List.take_zero, List.getElem?_cons_zero, List.getElem?_cons_succ] at h0 h1 h2 h3 h4 h5 h6 h7
    obtain ⟨s0, e0, _, w0⟩ := DataW.trod_int Tryz.underlying3 h0
    obtain ⟨s1, e1, _, w1⟩ := DataW.trod_int Tryz.underlying3 h1
    obtain ⟨s2, e2, _, w2⟩ := DataW.trod_int Tryz.underlying3 h2
    obtain ⟨s3, e3, _, w3⟩ := DataW.trod_int Tryz.underlying3 h3
    obtain ⟨s4, e4, _, w4⟩ := DataW.trod_int Tryz.underlying3 h4
    obtain ⟨s5, e5, _, w5⟩ := DataW.trod_string Tryz.underlying9 h5
    obtain ⟨s6, e6, _, w6⟩ := DataW.trod_string Tryz.underlying9 h6
    obtain ⟨a7, l7, k7, e7, i7⟩ := list_of h7 (light_rec hw 7 23 rfl _ rfl)
    simp [ocells3, ocells9, ocells23] at e0 e1 e2 e3 e4 e5 e6 e7
    subst e0 e1 e2 e3 e4 e5 e6 e7
    exact ⟨⟨s0, s1, s2, s3, s4, s5, s6, l7⟩, a7, k7, rfl, i7, ⟨bounds_i64 w0, bounds_i64 w1, bounds_i64 w2, bounds_i64 w3, bounds_i64 w4⟩, by simpa [Lit.wf] using w5⟩
theorem cellsUp {base : Nat} {a : Addr} {n : Nat} {cs : List Value} (h : w.cells? base a n = some cs) : cs.length = n ∧ ∀ (i : Nat) (c : Value), cs[i]? = some c → w.cell? (a.add i) = some c := by
  unfold World.cells? at h
  split at h
  · have step : ∀ (r : List Nat) (z : List Value), List.mapM (fun i => w.cell? (a.add i)) r = some z → z.length = r.length ∧ ∀ (i j : Nat) (c : Value), r[i]? = some j → z[i]? = some c → w.cell? (a.add j) = some c := by
      intro r
      induction r with
      | nil => intro z hz; have e : z = [] := by simpa using hz.symm
               subst e; exact ⟨rfl, fun i j c hi => by simp at hi⟩
      | cons x r ih =>
        intro z hz
        rw [List.mapM_cons] at hz
        obtain ⟨c, h1, h2⟩ := Option.bind_eq_some_iff.1 hz
        obtain ⟨t, h3, h4⟩ := Option.bind_eq_some_iff.1 h2
        have e : z = c :: t := (Option.some.inj h4).symm
        subst e
        obtain ⟨i1, i2⟩ := ih t h3
        refine ⟨by simp [i1], fun i j d hi hd => ?_⟩
        cases i with
        | zero => simp at hi hd; subst hi; subst hd; exact h1
        | succ i => exact i2 i j d (by simpa using hi) (by simpa using hd)
    obtain ⟨s1, s2⟩ := step _ _ h
    refine ⟨by simpa using s1, fun i c hi => s2 i i c ?_ hi⟩
    have := (List.getElem?_eq_some_iff.1 hi).1
    rw [s1] at this
    rw [List.getElem?_range (by simpa using this)]
  · cases h
theorem add_add (b o i j : Nat) : ((⟨b, o, none⟩ : Addr).add i).add j = ⟨b, o + i + j, none⟩ := by rw [add_at, add_at]
/-- A script among the arguments. -/
theorem script_of {v : Value} {d : DataW H} {p : List MemPlace} {a : Option Addr} {len cap : Nat} (hv : v = .slice a len cap) (h : DataW.Trod enc Tryz.prog w 0 (fun _ => true) true 22 v d p) (hw : Light 22 d) : ∃ ops : List Rc, Script w v ops := by
  subst hv
  obtain ⟨fuel, hf⟩ := h
  rcases Deep.open_slice Tryz.underlying22 hf with ⟨hcs, _⟩ | ⟨x, l, c, m, n, D, Pl, hcs, _, hl, hm, hmm, hx2, hx⟩
  · simp [Value.cells] at hcs
    obtain ⟨rfl, rfl, rfl⟩ := hcs
    exact ⟨[], ⟨none, 0, rfl, fun h => absurd rfl h⟩, Nat.zero_le _⟩
  · simp [Value.cells] at hcs
    obtain ⟨rfl, rfl, rfl⟩ := hcs
    simp only [if_true] at hmm
    subst hmm
    have hd : d = .slice ((List.range len).map D) ((List.range (m - len)).map fun j => D (len + j)) := congrArg Prod.fst hx2
    have hlt : ∀ i, i < len → Light 34 (D i) := fun i hi k hk => by
      refine hw k ?_
      rw [hd]
      simp only [DataW.weights, Tryz.underlying22, List.mem_cons, List.mem_append]
      exact .inr (.inl (weightsAll_mem (List.mem_map.2 ⟨i, List.mem_range.2 hi, rfl⟩) k hk))
    rw [cells34] at hx
    by_cases h0 : len = 0
    · subst h0
      exact ⟨[], ⟨some x, m, rfl, fun h => absurd rfl h⟩, Nat.zero_le _⟩
    · obtain ⟨b, off, spot⟩ := x
      have hspot : spot = none := by
        obtain ⟨cs', h1, h2⟩ := hx 0 (by omega)
        obtain ⟨o, la, lc, rfl, _⟩ := rec_of h2 (hlt 0 (by omega))
        have hc := (cellsUp h1).2 0 _ rfl
        have := World.cell?_spot hc
        simpa [Addr.add] using this
      subst hspot
      have hall : ∀ i, i < len → ∃ o : Rc, RecC w b (off + i * 8) o := fun i hi => by
        obtain ⟨cs', h1, h2⟩ := hx i (by omega)
        obtain ⟨o, la, lc, rfl, j1, j2, j3⟩ := rec_of h2 (hlt i hi)
        have hc := (cellsUp h1).2
        have g0 := hc 0 _ rfl
        have g1 := hc 1 _ rfl
        have g2 := hc 2 _ rfl
        have g3 := hc 3 _ rfl
        have g4 := hc 4 _ rfl
        have g5 := hc 5 _ rfl
        have g6 := hc 6 _ rfl
        have g7 := hc 7 _ rfl
        rw [add_add] at g0 g1 g2 g3 g4 g5 g6 g7
        exact ⟨o, la, lc, g0, g1, g2, g3, g4, g5, g6, g7, j1, j2, j3⟩
      have hV : ∃ V : Nat → Rc, ∀ i, i < len → RecC w b (off + i * 8) (V i) :=
        ⟨fun i => if hi : i < len then Classical.choose (hall i hi) else ⟨0, 0, 0, 0, 0, ⟨#[]⟩, ⟨#[]⟩, []⟩, fun i hi => by
          simp only [hi, dite_true]
          exact Classical.choose_spec (hall i hi)⟩
      obtain ⟨V, hV⟩ := hV
      refine ⟨(List.range len).map V, ⟨some ⟨b, off, none⟩, m, by simp, fun _ => ⟨b, off, rfl, fun i hi => ?_⟩⟩, by simp; omega⟩
      simp only [List.length_map, List.length_range] at hi
      simp only [List.getElem_map, List.getElem_range]
      exact hV i (by omega)
end
/-- Its cells are a record. -/
theorem RecC.rec {w : World} {b o : Nat} {x : Rc} {W : World} (h : RecC w b o x) (hb : Below w.heap.size w W) : ∃ la lc, RecM W (.agg #[.int .i64 x.kind, .int .i64 x.a, .int .i64 x.b, .int .i64 x.c, .int .i64 x.d, .string x.name, .string x.text, .slice la x.list.length lc]) x ∧ W.cell? ⟨b, o + 7, none⟩ = some (.slice la x.list.length lc) ∧ In (fun k => k < w.heap.size) (.slice la x.list.length lc) x.list := by
  obtain ⟨la, lc, h0, h1, h2, h3, h4, h5, h6, h7, h8, h9, h10⟩ := h
  refine ⟨la, lc, ⟨⟨_, rfl, h8.under hb⟩, h9, h10⟩, kept_cell hb h7, ?_⟩
  intro hne b2 off n c e
  obtain ⟨⟨a2, cap2, e2, _, _, _, hat⟩, _⟩ := h8
  obtain ⟨b3, off3, e3, hlt, _⟩ := hat hne
  rw [e2] at e
  simp only [Value.slice.injEq] at e
  rw [e3] at e
  simp at e
  omega
end Go.Proofs.YtcffomhcmilcpaaGreat

