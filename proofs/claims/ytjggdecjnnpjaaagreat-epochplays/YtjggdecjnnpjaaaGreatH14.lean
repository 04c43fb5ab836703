/- What every statement's text wants of the program. -/
import Derived.Test.YtjggdecjnnpjaaaGreatH13
import Derived.ProofKit
import Derived.OpenShut
import Derived.ShutString
import Derived.ChangeOld
import Derived.SliceStrings
import Derived.Deep.Slices
import Derived.Lib.SmallJoins
import Derived.Test.YtjggdecjnnpjaaaGreatH0
import Derived.Test.YtjggdecjnnpjaaaGreatH3
import Derived.Deep.RegionHeld3
namespace Go.Proofs.YtjggdecjnnpjaaaGreat
open Go.ChangeShapes Go.WideShapes Go.ChangeAt Go.RowKit
theorem own : ownKnob Tryz.prog.godebug = none := by kernel_rfl
theorem laidOut : laidOutB Tryz.prog = true := by kernel_rfl
end Go.Proofs.YtjggdecjnnpjaaaGreat

/- A script of calls in memory. -/
namespace Go.Proofs.YtjggdecjnnpjaaaGreat
open Go.ChangeShapes Go.WideShapes Go.ChangeAt Go.RowKit
set_option linter.unusedVariables false
set_option linter.unusedSimpArgs false
set_option maxRecDepth 100000

theorem cells36 : Tryz.prog.cellsOf 36 = 3 := by kernel_rfl
theorem ocells3 : Tryz.prog.cellsOf 3 = 1 := by kernel_rfl

/-- A call of a script. -/
structure OpV where
  kind : Int
  key : Int
  tick : Int
def OpV.ok (o : OpV) : Prop := I64 o.kind ∧ I64 o.key ∧ I64 o.tick

def OpCells (w : World) (b o : Nat) (x : OpV) : Prop :=
  w.cell? ⟨b, o, none⟩ = some (.int .i64 x.kind) ∧ w.cell? ⟨b, o + 1, none⟩ = some (.int .i64 x.key) ∧ w.cell? ⟨b, o + 2, none⟩ = some (.int .i64 x.tick)

/-- A script in memory. -/
def OpsAt (w : World) (so : Option Addr) (ops : List OpV) : Prop :=
  ops = [] ∨ ∃ b off, so = some ⟨b, off, none⟩ ∧ b < w.heap.size ∧ ∀ i (hi : i < ops.length), ops[i].ok ∧ OpCells w b (off + i * 3) ops[i]

theorem OpsAt.under {w w1 : World} {so : Option Addr} {ops : List OpV} (h : OpsAt w so ops) (hb : Below w.heap.size w w1) : OpsAt w1 so ops := by
  rcases h with h | ⟨b, off, e, hlt, hc⟩
  · exact .inl h
  · refine .inr ⟨b, off, e, Nat.lt_of_lt_of_le hlt hb.size, fun i hi => ?_⟩
    obtain ⟨h1, h2, h3, h4⟩ := hc i hi
    exact ⟨h1, (hb.cell hlt).trans h2, (hb.cell hlt).trans h3, (hb.cell hlt).trans h4⟩

section
variable {H : Type} {enc : TypeId × Value → H} {w : World} {base : Nat} {spare : Nat → Bool} {held : Bool}

theorem op_of {fuel : Nat} {cs : List Value} {x : DataW H × List MemPlace} (h : DataW.trod enc Tryz.prog w base spare held fuel 36 cs = some x) :
    ∃ o : OpV, o.ok ∧ cs = [.int .i64 o.kind, .int .i64 o.key, .int .i64 o.tick] := by
  obtain ⟨xs, n, _, rfl, hl, hlen, hf⟩ := DataW.trod_struct Tryz.underlying36 h
  rw [cells36] at hl
  match cs, hl, xs, hlen with
  | [c0, c1, c2], _, [y0, y1, y2], _ =>
    have h0 := hf 0 _ rfl
    have h1 := hf 1 _ rfl
    have h2 := hf 2 _ rfl
    simp only [ocells3, List.drop_zero, List.drop_succ_cons, List.take_succ_cons, List.take_zero, List.getElem?_cons_zero, List.getElem?_cons_succ] at h0 h1 h2
    obtain ⟨k, e0, _, wk⟩ := DataW.trod_int Tryz.underlying3 h0
    obtain ⟨s1, e1, _, w1⟩ := DataW.trod_int Tryz.underlying3 h1
    obtain ⟨s2, e2, _, w2⟩ := DataW.trod_int Tryz.underlying3 h2
    simp [ocells3] at e0 e1 e2
    subst e0 e1 e2
    exact ⟨⟨k, s1, s2⟩, ⟨bounds_i64 wk, bounds_i64 w1, bounds_i64 w2⟩, rfl⟩

theorem cellsUp {a : Addr} {n : Nat} {cs : List Value} (h : w.cells? base a n = some cs) : cs.length = n ∧ ∀ (i : Nat) (c : Value), cs[i]? = some c → w.cell? (a.add i) = some c := by
  unfold World.cells? at h
  split at h
  · have step : ∀ (r : List Nat) (z : List Value), List.mapM (fun i => w.cell? (a.add i)) r = some z → z.length = r.length ∧ ∀ (i j : Nat) (c : Value), r[i]? = some j → z[i]? = some c → w.cell? (a.add j) = some c := by
      intro r
      induction r with
      | nil => intro z hz; have e : z = [] := by simpa using hz.symm
               subst e; exact ⟨rfl, fun i j c hi => by simp at hi⟩
      | cons x r ih =>
        intro z hz
        rw [List.mapM_cons] at hz
        obtain ⟨c, h1, h2⟩ := Option.bind_eq_some_iff.1 hz
        obtain ⟨t, h3, h4⟩ := Option.bind_eq_some_iff.1 h2
        have e : z = c :: t := (Option.some.inj h4).symm
        subst e
        obtain ⟨i1, i2⟩ := ih t h3
        refine ⟨by simp [i1], fun i j d hi hd => ?_⟩
        cases i with
        | zero => simp at hi hd; subst hi; subst hd; exact h1
        | succ i => exact i2 i j d (by simpa using hi) (by simpa using hd)
    obtain ⟨s1, s2⟩ := step _ _ h
    refine ⟨by simpa using s1, fun i c hi => s2 i i c ?_ hi⟩
    have := (List.getElem?_eq_some_iff.1 hi).1
    rw [s1] at this
    rw [List.getElem?_range (by simpa using this)]
  · cases h

theorem add_add (b o i j : Nat) : ((⟨b, o, none⟩ : Addr).add i).add j = ⟨b, o + i + j, none⟩ := by
  have h : ∀ o i, (⟨b, o, none⟩ : Addr).add i = ⟨b, o + i, none⟩ := fun o i => by unfold Addr.add; split <;> simp_all
  rw [h, h]

/-- A script that came in. -/
theorem script_of {v : Value} {d : DataW H} {p : List MemPlace} {a : Option Addr} {len cap : Nat} (hv : v = .slice a len cap) (h : DataW.Trod enc Tryz.prog w 0 (fun _ => true) true 22 v d p) :
    ∃ ops : List OpV, len = ops.length ∧ OpsAt w a ops ∧ len ≤ maxLen := by
  subst hv
  obtain ⟨fuel, hf⟩ := h
  rcases Deep.open_slice Tryz.underlying22 hf with ⟨hcs, _⟩ | ⟨x, l, c, m, n, D, Pl, hcs, _, hl, hm, hmm, _, hx⟩
  · simp [Value.cells] at hcs
    obtain ⟨rfl, rfl, rfl⟩ := hcs
    exact ⟨[], rfl, .inl rfl, Nat.zero_le _⟩
  · simp [Value.cells] at hcs
    obtain ⟨rfl, rfl, rfl⟩ := hcs
    simp only [if_true] at hmm
    subst hmm
    rw [cells36] at hx
    by_cases h0 : len = 0
    · exact ⟨[], by simpa using h0, .inl rfl, by omega⟩
    · obtain ⟨b, off, spot⟩ := x
      have hspot : spot = none := by
        obtain ⟨cs', h1, h2⟩ := hx 0 (by omega)
        obtain ⟨o, ho, rfl⟩ := op_of h2
        have hc := (cellsUp h1).2 0 _ rfl
        have := World.cell?_spot hc
        simpa [Addr.add] using this
      subst hspot
      have hall : ∀ i, i < m → ∃ o : OpV, o.ok ∧ OpCells w b (off + i * 3) o := fun i hi => by
        obtain ⟨cs', h1, h2⟩ := hx i hi
        obtain ⟨o, ho, rfl⟩ := op_of h2
        have hc := (cellsUp h1).2
        have g0 := hc 0 _ rfl
        have g1 := hc 1 _ rfl
        have g2 := hc 2 _ rfl
        rw [add_add] at g0 g1 g2
        exact ⟨o, ho, g0, g1, g2⟩
      have hbw : b < w.heap.size := by
        obtain ⟨o, ho, hc, _⟩ := hall 0 (by omega)
        exact World.block_lt_of_cell? w _ hc
      have hV : ∃ V : Nat → OpV, ∀ i, i < m → (V i).ok ∧ OpCells w b (off + i * 3) (V i) :=
        ⟨fun i => if hi : i < m then Classical.choose (hall i hi) else ⟨0, 0, 0⟩, fun i hi => by
          simp only [hi, dite_true]
          exact Classical.choose_spec (hall i hi)⟩
      obtain ⟨V, hV⟩ := hV
      refine ⟨(List.range len).map V, by simp, .inr ⟨b, off, rfl, hbw, fun i hi => ?_⟩, by omega⟩
      simp only [List.length_map, List.length_range] at hi
      simp only [List.getElem_map, List.getElem_range]
      exact hV i (by omega)

end
end Go.Proofs.YtjggdecjnnpjaaaGreat

/- The document's cache in memory; may, ahead, Last, All. -/
namespace Go.Proofs.YtjggdecjnnpjaaaGreat
open Go.RowKit Go.Maps Go.Sort
set_option maxRecDepth 100000
set_option linter.unusedSimpArgs false
set_option linter.unusedVariables false

/-- The document's cache: block q, over the disk at block r; its entries; all its blocks among U. -/
structure RC (w : World) (U : Nat → Prop) (q r : Nat) (name : ByteArray) (v : Value) (l : List (Int × Int)) : Prop where
  below : ∀ k, U k → k < w.heap.size
  self : U q
  box : w.heap[q]? = some (.cells #[.pointer (some ⟨r, 0, none⟩), .string name, v] 60)
  ents : AL w v l
  own : ∀ k, v.ownBlock = some k → U k ∧ k ≠ q
theorem RC.kept {w w1 : World} {U q r name v l} (h : RC w U q r name v l) (hb : ∀ k, U k → w1.heap[k]? = w.heap[k]?) (hs : w.heap.size ≤ w1.heap.size) : RC w1 U q r name v l :=
  ⟨fun k hk => Nat.lt_of_lt_of_le (h.below k hk) hs, h.self, (hb q h.self).trans h.box, h.ents.kept hs (fun k hk _ => hb k (h.own k hk).1), h.own⟩
theorem RC.under {w w1 : World} {U q r name v l} (h : RC w U q r name v l) (hb : Below w.heap.size w w1) : RC w1 U q r name v l := h.kept (fun k hk => hb.block k (h.below k hk)) hb.size
theorem RC.beside {w w1 : World} {U T : Nat → Prop} {q r name v l} (h : RC w U q r name v l) (hk : Keeps T w w1) (hd : ∀ k, U k → ¬ T k) : RC w1 U q r name v l :=
  h.kept (fun k hU => hk.block k (h.below k hU) (hd k hU)) hk.size
theorem RC.c {w : World} {U q r name v l} (h : RC w U q r name v l) : w.cell? ⟨q, 0, none⟩ = some (.pointer (some ⟨r, 0, none⟩)) ∧ w.cell? ⟨q, 1, none⟩ = some (.string name) ∧ w.cell? ⟨q, 2, none⟩ = some v :=
  ⟨cell_at h.box rfl, cell_at h.box rfl, cell_at h.box rfl⟩
theorem RC.f {w : World} {U q r name v l} (h : RC w U q r name v l) (j : Nat) : w.frozen? ⟨q, j, none⟩ = false := frozen_blk h.box j
theorem RC.set {w : World} {U q r name v l} (h : RC w U q r name v l) {v' : Value} {l' : List (Int × Int)} (he : AL w v' l') (U0 : Nat → Prop) (ho : ∀ k, v'.ownBlock = some k → (U k ∨ U0 k) ∧ k ≠ q) (hU : ∀ k, U0 k → k < w.heap.size) :
    RC (w.setCell ⟨q, 2, none⟩ v') (fun k => U k ∨ U0 k) q r name v' l' := by
  have hs : (w.setCell ⟨q, 2, none⟩ v').heap.size = w.heap.size := set_size _ _ _
  refine ⟨fun k hk => ?_, .inl h.self, set_box h.box, he.kept (by omega) (fun k hk _ => Below.heap_setCell w ⟨q, 2, none⟩ v' k (ho k hk).2), fun k hk => ho k hk⟩
  rw [hs]
  rcases hk with hk | hk
  · exact h.below k hk
  · exact hU k hk
set_option maxHeartbeats 400000 in
theorem rmay_any (n : Int) (w : World) : Calls Tryz.prog 34 #[.int .i64 n] w fun e w' => e = .returned (.bool (inB n)) ∧ w' = w := by
  have HN : Hid (inB n = (decide (0 ≤ n) && decide (n ≤ 1000000000))) := rfl
  by_cases h1 : 0 ≤ n
  · by_cases h2 : n ≤ 1000000000
    · rw [decide_eq_true h1, decide_eq_true h2] at HN
      go_enter Tryz.func34, Tryz.ntmps34
      go_wp2
      go_ret
      exact ⟨by rw [HN.out]; rfl, rfl⟩
    · rw [decide_eq_true h1, decide_eq_false h2] at HN
      go_enter Tryz.func34, Tryz.ntmps34
      go_wp2
      go_ret
      exact ⟨by rw [HN.out]; rfl, rfl⟩
  · rw [decide_eq_false h1] at HN
    go_enter Tryz.func34, Tryz.ntmps34
    go_wp2
    go_ret
    exact ⟨by rw [HN.out]; rfl, rfl⟩
set_option maxHeartbeats 1600000 in
theorem rlast_any {w : World} {U q r name v} {l : List (Int × Int)} (h : RC w U q r name v l) (hlen : l.length ≤ 200) :
    Calls Tryz.prog 26 #[.pointer (some ⟨q, 0, none⟩)] w fun e w' => e = .returned (.int .i64 (lastW l)) ∧ Below w.heap.size w w' := by
  obtain ⟨oa, cap, rfl, hoa⟩ := h.ents.shape
  obtain ⟨k0, k1, k2⟩ := h.c
  have HEL := h.ents
  clear h
  cases hlast : l.getLast? with
  | none =>
    have hl0 : l = [] := List.getLast?_eq_none_iff.1 hlast
    have HL : Hid (lastW l = -1) := by show _ = _; unfold lastW; rw [hlast]
    have hl1 : l.length = 0 := by rw [hl0]; rfl
    clear hl0 hlast hoa HEL
    go_enter Tryz.func26, Tryz.ntmps26
    go_wp2_with fail
    go_ret
    exact ⟨by rw [HL.out]; rfl, Below.refl _ _⟩
  | some x =>
    have HL : Hid (lastW l = x.1) := by show _ = _; unfold lastW; rw [hlast]
    have hpos : 0 < l.length := by cases l with | nil => simp at hlast | cons y r => simp
    have hxl : l[l.length - 1]? = some x := by rw [← hlast, List.getLast?_eq_getElem?]
    obtain ⟨g, rfl⟩ := hoa hpos
    obtain ⟨r0, r1, r2⟩ := HEL.at_ _ _ hxl
    obtain ⟨n, hn1⟩ : ∃ n, l.length = n + 1 := ⟨l.length - 1, by omega⟩
    have hn2 : l.length - 1 = n := by omega
    rw [hn2] at r0 r1 r2
    have hn3 : IntKind.i64.wrap ((n : Int) + 1 - 1) = (n : Int) := by rw [IntWalk.i64_in _ (by omega)]; omega
    have hn4 : IntKind.i64.wrap (n : Int) = (n : Int) := IntWalk.i64_in _ (by omega)
    have hn5 : (n : Int) < (n : Int) + 1 := by omega
    rw [hn1] at k2
    clear hoa hxl hlast HEL hn2
    have hne : ¬ ((n : Int) + 1 = 0) := by omega
    have hne' : ((n : Int) + 1 == 0) = false := by simp; omega
    go_enter Tryz.func26, Tryz.ntmps26
    go_wp2_with fail
    try go_quiet (fail)
    try go_wp2_with fail
    go_ret
    exact ⟨by rw [HL.out]; rfl, by first | exact Below.refl _ _ | exact (Below.refl _ _).drew | exact below_drewN (Below.refl _ _) _⟩
theorem AL.cells {w : World} {g n cap : Nat} {l : List (Int × Int)} (h : AL w (.slice (some ⟨g, 0, none⟩) n cap) l) : ∀ j u, (flatA l)[j]? = some u → w.cell? ((⟨g, 0, none⟩ : Addr).add j) = some u := by
  intro j u hu
  have hlen : j < (flatA l).length := (List.getElem?_eq_some_iff.1 hu).1
  rw [flatA_length] at hlen
  have hj : j / 3 < l.length := by omega
  have hx : l[j / 3]? = some l[j / 3] := by simp [hj]
  rw [add_lit0]
  obtain ⟨f0, f1, f2⟩ := flatA_at _ _ _ hx
  obtain ⟨c0, c1, c2⟩ := h.at_ _ _ hx
  have h3 : j % 3 = 0 ∨ j % 3 = 1 ∨ j % 3 = 2 := by omega
  rcases h3 with h0 | h0 | h0
  · have e : j = j / 3 * 3 := by omega
    rw [e] at hu ⊢
    rw [f0] at hu
    cases hu
    exact c0
  · have e : j = j / 3 * 3 + 1 := by omega
    rw [e] at hu ⊢
    rw [f1] at hu
    cases hu
    exact c1
  · have e : j = j / 3 * 3 + 2 := by omega
    rw [e] at hu ⊢
    rw [f2] at hu
    cases hu
    exact c2
theorem flatA_one : ∀ (l : List (Int × Int)), ∀ u ∈ flatA l, u.oneCell' = true
  | [], u, h => by simp [flatA] at h
  | x :: r, u, h => by
    simp [flatA, acells] at h
    rcases h with rfl | rfl | rfl | h
    · rfl
    · rfl
    · rfl
    · exact flatA_one r u h
end Go.Proofs.YtjggdecjnnpjaaaGreat

/- The document's Int. -/
namespace Go.Proofs.YtjggdecjnnpjaaaGreat
open Go.RowKit Go.Maps
set_option maxRecDepth 100000
set_option linter.unusedSimpArgs false
set_option linter.unusedVariables false

set_option maxHeartbeats 1600000 in
theorem rint_any (n : Int) (w : World) (hn : I64 n) : Calls Tryz.prog 74 #[.int .i64 n] w fun e w' => e = .returned (.string (strOf (intL n))) ∧ Below w.heap.size w w' := by
  obtain ⟨i0, hi0, hz0, hz1, hz2⟩ := info5
  have hz := zz_lt n hn.1 hn.2
  have H0 : Hid (IntAt w w.heap.size (.slice none 0 0) (intL n) 0 (zz n) [] (.slice none 0 0) w) := ⟨Row.nil _ _, by simp, rfl, hz, .refl _ _, .refl _ _⟩
  have htl : Hid ((intL n).length ≤ 10) := (intL_length n).2
  obtain ⟨h1, h2⟩ := hn
  by_cases hneg : n < 0
  · go_enter Tryz.func74, Tryz.ntmps74
    go_wp2
    go_loopg [3, 4] 10 (fun kx s3 s4 wr => ∃ (k z : Nat) (sv : Value) (m : List UInt8), k ≤ 9 ∧ 10 - k ≤ kx ∧ s3 = .int .u64 z ∧ sv = s4 ∧ Hid (IntAt w w.heap.size (.slice none 0 0) (intL n) k z m sv wr))
    case atStart => exact ⟨0, zz n, _, [], by omega, by omega, by rw [rz_neg n h1 hneg], rfl, H0⟩
    case round =>
      obtain ⟨k, z, sv, m, hk, hkx, rfl, rfl, HD⟩ := hrel
      have hml : m.length ≤ 10 := Nat.le_trans HD.out.len htl.out
      have hwr : w.heap.size ≤ wr.heap.size := HD.out.below.size
      have HR : Hid (∀ O, (wr.alloc O).ownsRow w.heap.size 5 1 sv m.length (u8c m)) := fun O => HD.out.row.alloc O
      clear H0 htl
      by_cases hzs : z < 128
      · have hzs' : ¬ 128 ≤ (z : Int) := by omega
        go_wp2_with (at_builtin; refine wpList_append_own_at _ rfl _ _ 77 rfl w.heap.size 5 i0 _ 1 1 Tryz.underlying77 hi0 hz0 hz1 hz2 rfl (by decide) _ m.length (u8c m) rfl (HR.out _) ⟨wr.heap.size, 0, none⟩ 1 1 [.int .u8 (z : Int)] rfl rfl (one_cell rfl) (by simp [Value.oneCell']) (by unfold maxLen; omega) (by omega) (by simp; omega) ?_; intro v' w2 hown2 hg2 _ hat; have HF := HD.out.last (Nat.le_refl _) hzs _ v' w2 hown2 hg2 hat; have hcv := HF.1.conv; obtain ⟨a, cap, hv⟩ := HF.1.shape; rw [hv] at hcv ⊢)
        go_ret
        exact ⟨rfl, HF.2.1⟩
      · have hzs' : 128 ≤ (z : Int) := by omega
        have hk9 : k < 9 := by
          rcases Nat.lt_or_ge k 9 with h | h
          · exact h
          · have := HD.out.small; rw [show 9 - k = 0 by omega] at this; simp at this; omega
        have hz64 : (z : Int) < 18446744073709551616 := by have := HD.out.lt64; omega
        have hX : Hid ((z : Int) % 128 + 128 = ((z % 128 + 128 : Nat) : Int)) := by show _ = _; omega
        go_wp2_with (at_builtin; refine wpList_append_own_at _ rfl _ _ 77 rfl w.heap.size 5 i0 _ 1 1 Tryz.underlying77 hi0 hz0 hz1 hz2 rfl (by decide) _ m.length (u8c m) rfl (HR.out _) ⟨wr.heap.size, 0, none⟩ 1 1 [.int .u8 ((z : Int) % 128 + 128)] rfl rfl (one_cell rfl) (by simp [Value.oneCell']) (by unfold maxLen; omega) (by omega) (by simp; omega) ?_; intro v' w2 hown2 hg2 _ hat)
        have HF := HD.out.next (Nat.le_refl _) hk9 hzs _ hX.out _ v' w2 hown2 hg2 hat
        go_roundg (10 - (k + 1))
        case measure => omega
        case rel => exact ⟨k + 1, z / 128, v', _, by omega, Nat.le_refl _, by go_num, rfl, HF⟩
  · go_enter Tryz.func74, Tryz.ntmps74
    go_wp2
    go_loopg [3, 4] 10 (fun kx s3 s4 wr => ∃ (k z : Nat) (sv : Value) (m : List UInt8), k ≤ 9 ∧ 10 - k ≤ kx ∧ s3 = .int .u64 z ∧ sv = s4 ∧ Hid (IntAt w w.heap.size (.slice none 0 0) (intL n) k z m sv wr))
    case atStart => exact ⟨0, zz n, _, [], by omega, by omega, by rw [rz_pos n (by omega)], rfl, H0⟩
    case round =>
      obtain ⟨k, z, sv, m, hk, hkx, rfl, rfl, HD⟩ := hrel
      have hml : m.length ≤ 10 := Nat.le_trans HD.out.len htl.out
      have hwr : w.heap.size ≤ wr.heap.size := HD.out.below.size
      have HR : Hid (∀ O, (wr.alloc O).ownsRow w.heap.size 5 1 sv m.length (u8c m)) := fun O => HD.out.row.alloc O
      clear H0 htl
      by_cases hzs : z < 128
      · have hzs' : ¬ 128 ≤ (z : Int) := by omega
        go_wp2_with (at_builtin; refine wpList_append_own_at _ rfl _ _ 77 rfl w.heap.size 5 i0 _ 1 1 Tryz.underlying77 hi0 hz0 hz1 hz2 rfl (by decide) _ m.length (u8c m) rfl (HR.out _) ⟨wr.heap.size, 0, none⟩ 1 1 [.int .u8 (z : Int)] rfl rfl (one_cell rfl) (by simp [Value.oneCell']) (by unfold maxLen; omega) (by omega) (by simp; omega) ?_; intro v' w2 hown2 hg2 _ hat; have HF := HD.out.last (Nat.le_refl _) hzs _ v' w2 hown2 hg2 hat; have hcv := HF.1.conv; obtain ⟨a, cap, hv⟩ := HF.1.shape; rw [hv] at hcv ⊢)
        go_ret
        exact ⟨rfl, HF.2.1⟩
      · have hzs' : 128 ≤ (z : Int) := by omega
        have hk9 : k < 9 := by
          rcases Nat.lt_or_ge k 9 with h | h
          · exact h
          · have := HD.out.small; rw [show 9 - k = 0 by omega] at this; simp at this; omega
        have hz64 : (z : Int) < 18446744073709551616 := by have := HD.out.lt64; omega
        have hX : Hid ((z : Int) % 128 + 128 = ((z % 128 + 128 : Nat) : Int)) := by show _ = _; omega
        go_wp2_with (at_builtin; refine wpList_append_own_at _ rfl _ _ 77 rfl w.heap.size 5 i0 _ 1 1 Tryz.underlying77 hi0 hz0 hz1 hz2 rfl (by decide) _ m.length (u8c m) rfl (HR.out _) ⟨wr.heap.size, 0, none⟩ 1 1 [.int .u8 ((z : Int) % 128 + 128)] rfl rfl (one_cell rfl) (by simp [Value.oneCell']) (by unfold maxLen; omega) (by omega) (by simp; omega) ?_; intro v' w2 hown2 hg2 _ hat)
        have HF := HD.out.next (Nat.le_refl _) hk9 hzs _ hX.out _ v' w2 hown2 hg2 hat
        go_roundg (10 - (k + 1))
        case measure => omega
        case rel => exact ⟨k + 1, z / 128, v', _, by omega, Nat.le_refl _, by go_num, rfl, HF⟩

end Go.Proofs.YtjggdecjnnpjaaaGreat

/- The document's Bytes. -/
namespace Go.Proofs.YtjggdecjnnpjaaaGreat
open Go.RowKit Go.Maps Go.Sort
set_option maxRecDepth 100000
set_option linter.unusedSimpArgs false
set_option linter.unusedVariables false

set_option maxHeartbeats 3200000 in
theorem rbytes_any {w : World} {v : Value} {l : List (Int × Int)} (h : AL w v l) (hk : EOk l) :
    Calls Tryz.prog 56 #[v] w fun e w' => e = .returned (.string (strOf (ebytes l))) ∧ Below w.heap.size w w' := by
  have hlen := hk.few
  obtain ⟨oa, cap, rfl, hoa⟩ := h.shape
  have HE := hid h
  have HN := hid hk.num
  have H1 := hid (rint_any (l.length : Int) w ⟨by omega, by omega⟩)
  have HI74 : Hid (∀ (n : Int) (W : World), I64 n → Calls Tryz.prog 74 #[.int .i64 n] W fun e w' => e = .returned (.string (strOf (intL n))) ∧ Below W.heap.size W w') := fun n W hn => rint_any n W hn
  have HL : Hid (ebytes l = fourL (crcL (intL l.length ++ entsB l)) ++ (intL l.length ++ entsB l)) := rfl
  have HLn := hid (ebody_length l)
  unfold ebody at HLn
  have H0 : Hid (intL (l.length : Int) = intL l.length ++ entsB (l.take 0)) := by show _ = _; simp [entsB]
  clear h hk
  go_enter Tryz.func56, Tryz.ntmps56
  go_wp2_with fail
  refine H1.out.mono ?_
  rintro e w1 ⟨rfl, hb1⟩
  rw [H0.out]
  have HB1 := hid hb1
  clear hb1 H1 H0
  go_wp2_with fail
  go_loopg [3, 4] l.length (fun kx s3 s4 wr => ∃ (k : Nat), k ≤ l.length ∧ l.length - k ≤ kx ∧ s4 = .int .i64 (k : Int) ∧ s3 = .string (strOf (intL l.length ++ entsB (l.take k))) ∧ Hid (Below w.heap.size w wr))
  case atStart => exact ⟨0, by omega, by omega, rfl, rfl, HB1⟩
  case round =>
    obtain ⟨k, hkl, hkx, rfl, rfl, HI⟩ := hrel
    clear HB1
    by_cases hlt : k < l.length
    · have hlt' : (k : Int) < (l.length : Int) := by omega
      obtain ⟨g, rfl⟩ := hoa (by omega)
      have hx : l[k]? = some l[k] := List.getElem?_eq_getElem hlt
      obtain ⟨r0, r1, r2⟩ := (HE.out.under HI.out).at_ k l[k] hx
      have HT : Hid (strOf (intL l.length ++ entsB (l.take k)) ++ strOf (intL l[k].1) ++ strOf (intL l[k].2) = strOf (intL l.length ++ entsB (l.take (k + 1)))) := by
        show _ = _
        rw [strOf_append, strOf_append, entsB_take l k hlt]
        simp [intsL]
      have hn := HN.out l[k] (List.getElem_mem hlt)
      have hb2 : (intL l.length ++ entsB (l.take k)).length ≤ 5000 := by
        have h1 := entsB_length (l.take k)
        have h2 := (intL_length (l.length : Int)).2
        rw [List.length_take] at h1
        simp only [List.length_append]; omega
      have hz0 := strOf_size (intL l.length ++ entsB (l.take k))
      clear hx
      generalize l[k] = x at *
      have hz1 := strOf_size (intL x.1)
      have hz2 := strOf_size (intL x.2)
      have hl1 := (intL_length x.1).2
      have hl2 := (intL_length x.2).2
      generalize intL l.length ++ entsB (l.take k) = L at *
      have hq1 : ∀ W : World, (Op.stringOp .add (strOf L) (strOf (intL x.1))).run Tryz.prog W = .ok (.string (strOf L ++ strOf (intL x.1))) W := fun W => run_string_add (P := Tryz.prog) W _ _ (by rw [hz0]; omega) (by rw [hz1]; omega)
      have hq2 : ∀ W : World, (Op.stringOp .add (strOf L ++ strOf (intL x.1)) (strOf (intL x.2))).run Tryz.prog W = .ok (.string (strOf L ++ strOf (intL x.1) ++ strOf (intL x.2))) W := fun W => run_string_add (P := Tryz.prog) W _ _ (by rw [strOf_append, strOf_size, List.length_append]; omega) (by rw [hz2]; omega)
      have HA : Hid (∀ W, Below wr.heap.size wr W → Calls Tryz.prog 74 #[.int .i64 x.1] W fun e w' => e = .returned (.string (strOf (intL x.1))) ∧ Below wr.heap.size wr w') := fun W hb => (HI74.out _ W (num_i64 hn.1)).mono fun e w' ⟨e1, e2⟩ => ⟨e1, hb.trans (e2.mono hb.size)⟩
      have HB : Hid (∀ W, Below wr.heap.size wr W → Calls Tryz.prog 74 #[.int .i64 x.2] W fun e w' => e = .returned (.string (strOf (intL x.2))) ∧ Below wr.heap.size wr w') := fun W hb => (HI74.out _ W (num_i64 hn.2)).mono fun e w' ⟨e1, e2⟩ => ⟨e1, hb.trans (e2.mono hb.size)⟩
      have HKp : Hid (∀ W, Below wr.heap.size wr W → ∀ p u, wr.cell? p = some u → W.cell? p = some u) := fun W hb p u hu => (World.cell?_of_block (hb.block p.block (World.block_lt_of_cell? wr _ hu))).trans hu
      go_wp2_with fail
      go_region_held3 (fun w' => w'.cell? ⟨g, k * 3, none⟩ = some (.int .i64 x.1) ∧ w'.cell? ⟨g, k * 3 + 1, none⟩ = some (.int .i64 x.2)) (go_keep)
        (first
        | (go_at_call_of 74 (Value.int IntKind.i64 x.1); refine (HA.out _ ?_).mono ?_; (first | exact Below.refl _ _ | exact (Below.refl _ _).drew); rintro e w2 ⟨rfl, hbz⟩; have p0 := HKp.out _ hbz _ _ r0; have p1 := HKp.out _ hbz _ _ r1)
        | (go_at_call_of 74 (Value.int IntKind.i64 x.2); refine (HB.out _ ?_).mono ?_; (first | exact hbz | exact hbz.drew); rintro e w3 ⟨rfl, hb3⟩; have p0 := HKp.out _ hb3 _ _ r0; have p1 := HKp.out _ hb3 _ _ r1)
        | fail)
      all_goals
        go_wp2_with fail
        rw [HT.out]
        go_roundg (l.length - (k + 1))
        case measure => omega
        case rel => exact ⟨k + 1, by omega, Nat.le_refl _, by go_num, rfl, HI.out.trans (hb3.mono HI.out.size)⟩
    · have hlt' : ¬ (k : Int) < (l.length : Int) := by omega
      have e : k = l.length := by omega
      subst e
      rw [List.take_length]
      have hLL := HLn.out
      have HCr : Hid (Calls Tryz.prog 47 #[.string (strOf (intL l.length ++ entsB l))] wr fun e w' => e = .returned (.int .i64 (crcL (intL l.length ++ entsB l) : Nat)) ∧ wr = w') := by
        have := rcrc_any (strOf (intL l.length ++ entsB l)) wr (by rw [strOf_size]; unfold maxLen; omega)
        rw [strOf_data] at this
        exact this
      have HFo := hid (rfour_any (crcL (intL l.length ++ entsB l)) wr (crcL_lt _))
      have HA := hid (strOf_append (fourL (crcL (intL l.length ++ entsB l))) (intL l.length ++ entsB l))
      have hz0 := strOf_size (intL l.length ++ entsB l)
      have hz4 := strOf_size (fourL (crcL (intL l.length ++ entsB l)))
      have h4 : (fourL (crcL (intL l.length ++ entsB l))).length = 4 := rfl
      generalize intL l.length ++ entsB l = L at *
      go_wp2_with fail
      refine HCr.out.mono ?_
      rintro e w2 ⟨rfl, rfl⟩
      go_wp2_with fail
      refine HFo.out.mono ?_
      rintro e w3 ⟨rfl, hb3⟩
      go_wp2_with fail
      go_ret
      exact ⟨by rw [HL.out, ← HA.out]; rfl, HI.out.trans (hb3.mono HI.out.size)⟩

end Go.Proofs.YtjggdecjnnpjaaaGreat

/- What Remove and Rename make of a list of files. -/
namespace Go.Proofs.YtjggdecjnnpjaaaGreat
open Go.RowKit Go.Maps
set_option linter.unusedVariables false

def cutE (l : List AF) (n : ByteArray) (i : Int) : Nat := if (alook l n.data.toList).isSome = true then (if 0 ≤ i ∧ i ≤ ((abytes l n.data.toList).length : Int) then 0 else 1) else 8
def cutL (l : List AF) (n : ByteArray) (i : Int) : List AF :=
  if (alook l n.data.toList).isSome = true ∧ 0 ≤ i ∧ i ≤ ((abytes l n.data.toList).length : Int) then aput l ⟨n.data.toList, (abytes l n.data.toList).take i.toNat, min (asafe l n.data.toList) i.toNat⟩ else l

def remL (l : List AF) (n : ByteArray) : List AF := if (alook l n.data.toList).isSome = true then adel l n.data.toList else l
def renE (l : List AF) (n t : ByteArray) : Nat := if nameB t = true then synE l n else 1
def renL (l : List AF) (n t : ByteArray) : List AF :=
  if nameB t = true ∧ (alook l n.data.toList).isSome = true then aput (adel l n.data.toList) ⟨t.data.toList, abytes l n.data.toList, asafe l n.data.toList⟩ else l
end Go.Proofs.YtjggdecjnnpjaaaGreat

