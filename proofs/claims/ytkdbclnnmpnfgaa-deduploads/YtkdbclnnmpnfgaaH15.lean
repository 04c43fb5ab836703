/- What Delete takes away changes no answer. -/
import Derived.Test.YtkdbclnnmpnfgaaH12
import Derived.Test.YtkdbclnnmpnfgaaH13
import Derived.ProofKit
import Derived.OpenShut
import Derived.ShutString
import Derived.ChangeOld
import Derived.SliceStrings
import Derived.Deep.Slices
import Derived.Lib.SmallJoins
namespace Go.Proofs.Ytkdbclnnmpnfgaa
set_option linter.unusedSimpArgs false
set_option linter.unusedVariables false

theorem half_exists (N : Int) : ∀ l : List Nt, ∃ r, HalfAt l N r
  | [] => ⟨0, by simp, .inl rfl, .inl rfl⟩
  | x :: s => by
    obtain ⟨r, h1, h2, h3⟩ := half_exists N s
    by_cases hx : x.off < N
    · refine ⟨r + 1, by simp; omega, .inr (fun y hy => ?_), ?_⟩
      · rcases Nat.eq_zero_or_pos r with e | e
        · subst e; simp at hy; subst hy; exact hx
        · obtain ⟨k, rfl⟩ : ∃ k, r = k + 1 := ⟨r - 1, by omega⟩
          rcases h2 with h2 | h2
          · omega
          · exact h2 y (by simpa using hy)
      · rcases h3 with h3 | h3
        · exact .inl (by simp; omega)
        · exact .inr (fun y hy => h3 y (by simpa using hy))
    · exact ⟨0, by simp, .inl rfl, .inr (fun y hy => by simp at hy; subst hy; omega)⟩

/-- How many are taken away: d of l's, where those ahead of start are a. -/
structure Drp (l : List Nt) (start : Int) (a d : Nat) : Prop where
  half : HalfAt l start a
  le : d ≤ a
  gone : ∀ (i : Nat) x z, i < d → l[i]? = some x → l[a - 1]? = some z → x.ep ≠ z.ep ∨ i + 5 < a
def Dr (l m : List Nt) (start : Int) : Prop := ∃ a d, Drp l start a d ∧ m = l.drop d
theorem Dr.refl (l : List Nt) (start : Int) : Dr l l start := by
  obtain ⟨r, h⟩ := half_exists start l
  exact ⟨r, 0, ⟨h, Nat.zero_le _, fun i x z hi => by omega⟩, rfl⟩
theorem Drp.lt {l : List Nt} {start : Int} {a d : Nat} (h : Drp l start a d) (hl : l ≠ []) : d < l.length := by
  have h1 := h.half.le
  have h2 := h.le
  have h3 := List.length_pos_iff.2 hl
  rcases Nat.lt_or_ge d l.length with h4 | h4
  · exact h4
  · exfalso
    have e1 : a = l.length := by omega
    have hz : l[a - 1]? = some (l[a - 1]'(by omega)) := List.getElem?_eq_getElem (by omega)
    rcases h.gone (a - 1) _ _ (by omega) hz hz with h5 | h5
    · exact h5 rfl
    · omega
theorem drop_last (l : List Nt) (d : Nat) (h : d < l.length) : (l.drop d)[(l.drop d).length - 1]? = l[l.length - 1]? := by
  rw [List.getElem?_drop, List.length_drop]
  congr 1
  omega
theorem Dr.last {l m : List Nt} {start : Int} (h : Dr l m start) : m[m.length - 1]? = l[l.length - 1]? := by
  obtain ⟨a, d, h, rfl⟩ := h
  by_cases hl : l = []
  · subst hl; simp
  · exact drop_last l d (h.lt hl)
theorem Dr.follows {l m : List Nt} {start : Int} (h : Dr l m start) (x : Nt) : folB m x = folB l x := by
  unfold folB; rw [h.last]
theorem Dr.find {l m : List Nt} {start : Int} (h : Dr l m start) (hl : LOk l) (ep seq n : Int) : findL m ep seq n = findL l ep seq n := by
  have h1 : oldB m ep = oldB l ep := by unfold oldB; rw [h.last]
  have h2 : nextL m ep = nextL l ep := by unfold nextL; rw [h.last]
  unfold findL
  rw [h1, h2]
  by_cases ho : oldB l ep = true
  · rw [if_pos ho, if_pos ho]
  · rw [if_neg ho, if_neg ho]
    have hh : hitL m ep seq n = hitL l ep seq n := by
      obtain ⟨a, d, hd, rfl⟩ := h
      by_cases hne : l = []
      · subst hne; simp
      have hdl := hd.lt hne
      unfold hitL
      rw [List.length_drop, List.drop_drop]
      rcases Nat.lt_or_ge (l.length - 5) d with hk | hk
      · have e1 : d + (l.length - d - 5) = d := by omega
        rw [e1]
        have e2 : l.drop (l.length - 5) = (l.drop (l.length - 5)).take (d - (l.length - 5)) ++ l.drop d := by
          conv => lhs; rw [← List.take_append_drop (d - (l.length - 5)) (l.drop (l.length - 5))]
          rw [List.drop_drop]
          congr 2
          omega
        rw [e2, List.find?_append]
        have e3 : ((l.drop (l.length - 5)).take (d - (l.length - 5))).find? (isRun ep seq n) = none := by
          rw [List.find?_eq_none]
          intro x hx hr
          obtain ⟨i, hi, e⟩ := List.getElem_of_mem hx
          rw [List.length_take, List.length_drop] at hi
          have hxi : l[l.length - 5 + i]? = some x := by
            rw [← e, List.getElem_take, List.getElem_drop]; simp
          have hle := hd.half.le
          have hda := hd.le
          have hz : l[a - 1]? = some (l[a - 1]'(by omega)) := List.getElem?_eq_getElem (by omega)
          have hzl := lastEp_le hl hz
          have hlast : l[l.length - 1]? = some (l[l.length - 1]'(by omega)) := List.getElem?_eq_getElem (by omega)
          have hle2 : lastEp l = (l[l.length - 1]'(by omega)).ep := by unfold lastEp; rw [hlast]
          unfold oldB at ho
          rw [hlast] at ho
          simp only [decide_eq_true_eq] at ho
          unfold isRun at hr
          simp at hr
          rcases hd.gone (l.length - 5 + i) x _ (by omega) hxi hz with h5 | h5
          · have h6 : x.ep ≤ (l[a - 1]'(by omega)).ep := by
              rcases Nat.eq_or_lt_of_le (show l.length - 5 + i ≤ a - 1 by omega) with e4 | e4
              · rw [e4, hz] at hxi; rw [Option.some.inj hxi]; omega
              · exact (hl.at_lt hxi hz e4).2.1
            omega
          · omega
        rw [e3]
        rfl
      · congr 2
        omega
    rw [hh]
theorem Dr.ask {l m : List Nt} {start : Int} (h : Dr l m start) (hl : LOk l) (pid ep seq n : Int) : askL m pid ep seq n = askL l pid ep seq n := by
  unfold askL
  rw [h.find hl]
theorem HalfAt.snoc {l : List Nt} {N : Int} {r : Nat} (h : HalfAt l N r) {x : Nt} (hx : N ≤ x.off) : HalfAt (l ++ [x]) N r := by
  have hr := h.le
  refine ⟨by simp; omega, ?_, ?_⟩
  · rcases h.lo with e | h1
    · exact .inl e
    · by_cases r0 : r = 0
      · exact .inl r0
      · exact .inr (fun y hy => h1 y (by rw [List.getElem?_append_left (by omega)] at hy; exact hy))
  · refine .inr (fun y hy => ?_)
    rcases Nat.lt_or_ge r l.length with h1 | h1
    · rw [List.getElem?_append_left h1] at hy
      rcases h.hi with e | h2
      · omega
      · exact h2 y hy
    · have e : r = l.length := by omega
      subst e
      simp at hy
      subst hy
      exact hx
theorem Dr.snoc {l m : List Nt} {start : Int} (h : Dr l m start) {x : Nt} (hx : start ≤ x.off) : Dr (l ++ [x]) (m ++ [x]) start := by
  obtain ⟨a, d, hd, rfl⟩ := h
  have h1 := hd.half.le
  have h2 := hd.le
  refine ⟨a, d, ⟨hd.half.snoc hx, h2, fun i y z hi hy hz => ?_⟩, ?_⟩
  · rw [List.getElem?_append_left (by omega)] at hy hz
    exact hd.gone i y z hi hy hz
  · rw [List.drop_append_of_le_length (by omega)]
theorem HalfAt.take {l : List Nt} {N : Int} {a r : Nat} (h : HalfAt l N a) (har : a ≤ r) (hr : r ≤ l.length) : HalfAt (l.take r) N a := by
  refine ⟨by rw [List.length_take]; omega, ?_, ?_⟩
  · rcases h.lo with e | h1
    · exact .inl e
    · exact .inr (fun y hy => h1 y (by
        rw [List.getElem?_take] at hy
        split at hy
        · exact hy
        · cases hy))
  · rcases h.hi with e | h2
    · exact .inl (by rw [List.length_take]; omega)
    · exact .inr (fun y hy => h2 y (by
        rw [List.getElem?_take] at hy
        split at hy
        · exact hy
        · cases hy))
theorem half_mono {l : List Nt} (hl : LOk l) {M N : Int} {a r : Nat} (h : HalfAt l M a) (k : HalfAt l N r) (hMN : M ≤ N) : a ≤ r := by
  rcases Nat.lt_or_ge r a with h1 | h1
  · exfalso
    have ha := h.le
    have hx : l[r]? = some (l[r]'(by omega)) := List.getElem?_eq_getElem (by omega)
    have h2 := (h.iff hl r _ hx).2 h1
    have h3 := (k.iff hl r _ hx).1 (by omega)
    omega
  · exact h1
theorem Dr.cut {l m : List Nt} {start : Int} (h : Dr l m start) (hl : LOk l) {N : Int} (hN : start ≤ N) : Dr (cutN N l) (cutN N m) start := by
  obtain ⟨a, d, hd, rfl⟩ := h
  obtain ⟨r, hr⟩ := half_exists N l
  have har := half_mono hl hd.half hr hN
  have hrl := hr.le
  have hda := hd.le
  rw [hr.cut hl]
  refine ⟨a, d, ⟨hd.half.take har hrl, hda, fun i y z hi hy hz => ?_⟩, ?_⟩
  · rw [List.getElem?_take] at hy hz
    split at hy
    · split at hz
      · exact hd.gone i y z hi hy hz
      · cases hz
    · cases hy
  · have e : cutN N (l.drop d) = (l.drop d).take (r - d) := filter_take_any _ _ _ fun i x hx => by
      rw [List.getElem?_drop] at hx
      have := hr.iff hl (d + i) x hx
      simp only [decide_eq_true_eq]
      omega
    rw [e, List.drop_take]
theorem short_exists (l : List Nt) (r : Nat) (hr : r ≤ l.length) : ∀ j k : Nat, j + k = 5 → k ≤ r → (∀ (i : Nat) x z, r - k ≤ i → i < r → l[i]? = some x → l[r - 1]? = some z → x.ep = z.ep) →
    ∃ f, f ≤ r ∧ r - f ≤ 5 ∧ (∀ (i : Nat) x z, f ≤ i → i < r → l[i]? = some x → l[r - 1]? = some z → x.ep = z.ep) ∧ (f = 0 ∨ r - f = 5 ∨ ∃ x z, l[f - 1]? = some x ∧ l[r - 1]? = some z ∧ x.ep ≠ z.ep)
  | 0, k, hk, hkr, h => ⟨r - k, by omega, by omega, h, .inr (.inl (by omega))⟩
  | j + 1, k, hk, hkr, h => by
    by_cases h0 : r - k = 0
    · exact ⟨r - k, by omega, by omega, h, .inl h0⟩
    · have hx : l[r - k - 1]? = some (l[r - k - 1]'(by omega)) := List.getElem?_eq_getElem (by omega)
      have hz : l[r - 1]? = some (l[r - 1]'(by omega)) := List.getElem?_eq_getElem (by omega)
      by_cases he : (l[r - k - 1]'(by omega)).ep = (l[r - 1]'(by omega)).ep
      · refine short_exists l r hr j (k + 1) (by omega) (by omega) (fun i x z h1 h2 h3 h4 => ?_)
        rcases Nat.eq_or_lt_of_le h1 with e | e
        · have e' : i = r - k - 1 := by omega
          subst e'
          rw [hx] at h3
          rw [hz] at h4
          rw [← Option.some.inj h3, ← Option.some.inj h4]
          exact he
        · exact h i x z (by omega) h2 h3 h4
      · exact ⟨r - k, by omega, by omega, h, .inr (.inr ⟨_, _, hx, hz, he⟩)⟩
theorem Dr.del {l m : List Nt} {start : Int} (h : Dr l m start) (hl : LOk l) {N : Int} (hN : start ≤ N) : Dr l (shortL N m) N := by
  obtain ⟨a, d, hd, rfl⟩ := h
  obtain ⟨r, hr⟩ := half_exists N l
  have har := half_mono hl hd.half hr hN
  have hrl := hr.le
  have hda := hd.le
  have hm : LOk (l.drop d) := hl.sub (List.drop_sublist _ _)
  have hrm : HalfAt (l.drop d) N (r - d) := by
    refine ⟨by rw [List.length_drop]; omega, ?_, ?_⟩
    · by_cases h0 : r - d = 0
      · exact .inl h0
      · refine .inr (fun x hx => ?_)
        rw [List.getElem?_drop] at hx
        exact (hr.iff hl _ x hx).2 (by omega)
    · by_cases h0 : r - d = (l.drop d).length
      · exact .inl h0
      · refine .inr (fun x hx => ?_)
        rw [List.getElem?_drop] at hx
        have := hr.iff hl _ x hx
        omega
  obtain ⟨f, f1, f2, f3, f4⟩ := short_exists (l.drop d) (r - d) hrm.le 5 0 rfl (Nat.zero_le _) (fun i x z h1 h2 => by omega)
  have e := short_eq hrm hm f1 f2 f3 f4
  rw [e, List.drop_drop]
  refine ⟨r, d + f, ⟨hr, by omega, fun i x z hi hx hz => ?_⟩, rfl⟩
  rcases Nat.lt_or_ge i d with h1 | h1
  · have hza : l[a - 1]? = some (l[a - 1]'(by omega)) := List.getElem?_eq_getElem (by omega)
    rcases hd.gone i x _ h1 hx hza with h2 | h2
    · left
      have h3 : x.ep ≤ (l[a - 1]'(by omega)).ep := by
        rcases Nat.eq_or_lt_of_le (show i ≤ a - 1 by omega) with e4 | e4
        · rw [e4, hza] at hx; rw [Option.some.inj hx]; omega
        · exact (hl.at_lt hx hza e4).2.1
      have h4 : (l[a - 1]'(by omega)).ep ≤ z.ep := by
        rcases Nat.eq_or_lt_of_le (show a - 1 ≤ r - 1 by omega) with e4 | e4
        · rw [← e4, hza] at hz; rw [Option.some.inj hz]; omega
        · exact (hl.at_lt hza hz e4).2.1
      omega
    · exact .inr (by omega)
  · rcases f4 with g | g | ⟨x', z', g1, g2, g3⟩
    · omega
    · exact .inr (by omega)
    · by_cases hf0 : f = 0
      · omega
      left
      rw [List.getElem?_drop] at g1 g2
      have e1 : d + (r - d - 1) = r - 1 := by omega
      rw [e1, hz] at g2
      have e2 := Option.some.inj g2
      have h3 : x.ep ≤ x'.ep := by
        rcases Nat.eq_or_lt_of_le (show i ≤ d + (f - 1) by omega) with e4 | e4
        · rw [e4, g1] at hx; rw [Option.some.inj hx]; omega
        · exact (hl.at_lt hx g1 e4).2.1
      have h4 : x'.ep ≤ z.ep := by
        rcases Nat.eq_or_lt_of_le (show d + (f - 1) ≤ r - 1 by omega) with e4 | e4
        · rw [e4, hz] at g1; rw [Option.some.inj g1]; omega
        · exact (hl.at_lt g1 hz e4).2.1
      rw [e2] at h4 ⊢
      omega

theorem tget_put (T : Tb) (hr : T.Pairwise (fun p q => p.1 < q.1)) (p : Int) (l : List Nt) (pid : Int) : tget (tput T p l) pid = if pid = p then l else tget T pid := by
  have hr2 : (tput T p l).Pairwise (fun p q => p.1 < q.1) := rise_tins _ _ (hr.filter _) (fun q hq => by have := (List.mem_filter.1 hq).2; simpa using this)
  by_cases e : pid = p
  · subst e
    rw [if_pos rfl]
    exact tget_of_mem hr2 ((mem_tput _ _ _ _).2 (.inl rfl))
  · rw [if_neg e]
    by_cases h : tget T pid = []
    · rw [h]
      by_cases h2 : tget (tput T p l) pid = []
      · exact h2
      · have h3 := tget_mem h2
        rcases (mem_tput _ _ _ _).1 h3 with h4 | ⟨h4, _⟩
        · exact absurd (congrArg Prod.fst h4) e
        · have h5 := tget_of_mem hr h4
          simp only at h5
          rw [← h5]; exact h
    · have h3 := tget_mem h
      have := tget_of_mem hr2 ((mem_tput _ _ _ _).2 (.inr ⟨h3, e⟩))
      exact this
theorem tget_turn (T : Tb) (h : TOk T) (f : List Nt → List Nt) (h0 : f [] = []) (hf : ∀ l, LOk l → LOk (f l) ∧ (f l).length ≤ l.length) (pid : Int) : tget (turnT f T) pid = f (tget T pid) := by
  have hr2 := (h.turn f hf).rise
  by_cases he : f (tget T pid) = []
  · rw [he]
    by_cases h2 : tget (turnT f T) pid = []
    · exact h2
    · have h3 := tget_mem h2
      obtain ⟨h4, q, hq, h5, h6⟩ := (mem_turnT f T _).1 h3
      have h7 := tget_of_mem h.rise hq
      simp only at h5 h6
      rw [h5] at h7
      rw [h7, h6] at he
      exact he
  · have hne : tget T pid ≠ [] := fun e => he (by rw [e, h0])
    have h3 := tget_mem hne
    exact tget_of_mem hr2 ((mem_turnT f T (pid, f (tget T pid))).2 ⟨he, _, h3, rfl, rfl⟩)
end Go.Proofs.Ytkdbclnnmpnfgaa

/- What every statement's text wants of the program. -/
namespace Go.Proofs.Ytkdbclnnmpnfgaa
open Go.ChangeShapes Go.WideShapes Go.ChangeAt Go.RowKit
theorem own : ownKnob Try.prog.godebug = none := by kernel_rfl
theorem laidOut : laidOutB Try.prog = true := by kernel_rfl
end Go.Proofs.Ytkdbclnnmpnfgaa

/- A script of calls in memory. -/
namespace Go.Proofs.Ytkdbclnnmpnfgaa
open Go.ChangeShapes Go.WideShapes Go.ChangeAt Go.RowKit
set_option linter.unusedVariables false
set_option linter.unusedSimpArgs false
set_option maxRecDepth 100000

theorem cells29 : Try.prog.cellsOf 29 = 6 := by kernel_rfl
theorem ocells3 : Try.prog.cellsOf 3 = 1 := by kernel_rfl

/-- A call of a script. -/
structure OpV where
  kind : Int
  pid : Int
  ep : Int
  seq : Int
  n : Int
  off : Int
def OpV.ok (o : OpV) : Prop := I64 o.kind ∧ I64 o.pid ∧ I64 o.ep ∧ I64 o.seq ∧ I64 o.n ∧ I64 o.off

def OpCells (w : World) (b o : Nat) (x : OpV) : Prop :=
  w.cell? ⟨b, o, none⟩ = some (.int .i64 x.kind) ∧ w.cell? ⟨b, o + 1, none⟩ = some (.int .i64 x.pid) ∧ w.cell? ⟨b, o + 2, none⟩ = some (.int .i64 x.ep) ∧ w.cell? ⟨b, o + 3, none⟩ = some (.int .i64 x.seq) ∧ w.cell? ⟨b, o + 4, none⟩ = some (.int .i64 x.n) ∧ w.cell? ⟨b, o + 5, none⟩ = some (.int .i64 x.off)

/-- A script in memory. -/
def OpsAt (w : World) (so : Option Addr) (ops : List OpV) : Prop :=
  ops = [] ∨ ∃ b off, so = some ⟨b, off, none⟩ ∧ b < w.heap.size ∧ ∀ i (hi : i < ops.length), ops[i].ok ∧ OpCells w b (off + i * 6) ops[i]

theorem OpsAt.under {w w1 : World} {so : Option Addr} {ops : List OpV} (h : OpsAt w so ops) (hb : Below w.heap.size w w1) : OpsAt w1 so ops := by
  rcases h with h | ⟨b, off, e, hlt, hc⟩
  · exact .inl h
  · refine .inr ⟨b, off, e, Nat.lt_of_lt_of_le hlt hb.size, fun i hi => ?_⟩
    obtain ⟨h1, h2, h3, h4, h5, h6, h7⟩ := hc i hi
    exact ⟨h1, (hb.cell hlt).trans h2, (hb.cell hlt).trans h3, (hb.cell hlt).trans h4, (hb.cell hlt).trans h5, (hb.cell hlt).trans h6, (hb.cell hlt).trans h7⟩

section
variable {H : Type} {enc : TypeId × Value → H} {w : World} {base : Nat} {spare : Nat → Bool} {held : Bool}

theorem op_of {fuel : Nat} {cs : List Value} {x : DataW H × List MemPlace} (h : DataW.trod enc Try.prog w base spare held fuel 29 cs = some x) :
    ∃ o : OpV, o.ok ∧ cs = [.int .i64 o.kind, .int .i64 o.pid, .int .i64 o.ep, .int .i64 o.seq, .int .i64 o.n, .int .i64 o.off] := by
  obtain ⟨xs, n, _, rfl, hl, hlen, hf⟩ := DataW.trod_struct Try.underlying29 h
  rw [cells29] at hl
  match cs, hl, xs, hlen with
  | [c0, c1, c2, c3, c4, c5], _, [y0, y1, y2, y3, y4, y5], _ =>
    have h0 := hf 0 _ rfl
    have h1 := hf 1 _ rfl
    have h2 := hf 2 _ rfl
    have h3 := hf 3 _ rfl
    have h4 := hf 4 _ rfl
    have h5 := hf 5 _ rfl
    simp only [ocells3, List.drop_zero, List.drop_succ_cons, List.take_succ_cons, List.take_zero, List.getElem?_cons_zero, List.getElem?_cons_succ] at h0 h1 h2 h3 h4 h5
    obtain ⟨k, e0, _, wk⟩ := DataW.trod_int Try.underlying3 h0
    obtain ⟨s1, e1, _, w1⟩ := DataW.trod_int Try.underlying3 h1
    obtain ⟨s2, e2, _, w2⟩ := DataW.trod_int Try.underlying3 h2
    obtain ⟨s3, e3, _, w3⟩ := DataW.trod_int Try.underlying3 h3
    obtain ⟨s4, e4, _, w4⟩ := DataW.trod_int Try.underlying3 h4
    obtain ⟨s5, e5, _, w5⟩ := DataW.trod_int Try.underlying3 h5
    simp [ocells3] at e0 e1 e2 e3 e4 e5
    subst e0 e1 e2 e3 e4 e5
    exact ⟨⟨k, s1, s2, s3, s4, s5⟩, ⟨bounds_i64 wk, bounds_i64 w1, bounds_i64 w2, bounds_i64 w3, bounds_i64 w4, bounds_i64 w5⟩, rfl⟩

theorem cellsUp {a : Addr} {n : Nat} {cs : List Value} (h : w.cells? base a n = some cs) : cs.length = n ∧ ∀ (i : Nat) (c : Value), cs[i]? = some c → w.cell? (a.add i) = some c := by
  unfold World.cells? at h
  split at h
  · have step : ∀ (r : List Nat) (z : List Value), List.mapM (fun i => w.cell? (a.add i)) r = some z → z.length = r.length ∧ ∀ (i j : Nat) (c : Value), r[i]? = some j → z[i]? = some c → w.cell? (a.add j) = some c := by
      intro r
      induction r with
      | nil => intro z hz; have e : z = [] := by simpa using hz.symm
               subst e; exact ⟨rfl, fun i j c hi => by simp at hi⟩
      | cons x r ih =>
        intro z hz
        rw [List.mapM_cons] at hz
        obtain ⟨c, h1, h2⟩ := Option.bind_eq_some_iff.1 hz
        obtain ⟨t, h3, h4⟩ := Option.bind_eq_some_iff.1 h2
        have e : z = c :: t := (Option.some.inj h4).symm
        subst e
        obtain ⟨i1, i2⟩ := ih t h3
        refine ⟨by simp [i1], fun i j d hi hd => ?_⟩
        cases i with
        | zero => simp at hi hd; subst hi; subst hd; exact h1
        | succ i => exact i2 i j d (by simpa using hi) (by simpa using hd)
    obtain ⟨s1, s2⟩ := step _ _ h
    refine ⟨by simpa using s1, fun i c hi => s2 i i c ?_ hi⟩
    have := (List.getElem?_eq_some_iff.1 hi).1
    rw [s1] at this
    rw [List.getElem?_range (by simpa using this)]
  · cases h

theorem add_add (b o i j : Nat) : ((⟨b, o, none⟩ : Addr).add i).add j = ⟨b, o + i + j, none⟩ := by
  have h : ∀ o i, (⟨b, o, none⟩ : Addr).add i = ⟨b, o + i, none⟩ := fun o i => by unfold Addr.add; split <;> simp_all
  rw [h, h]

/-- A script that came in. -/
theorem script_of {v : Value} {d : DataW H} {p : List MemPlace} {a : Option Addr} {len cap : Nat} (hv : v = .slice a len cap) (h : DataW.Trod enc Try.prog w 0 (fun _ => true) true 22 v d p) :
    ∃ ops : List OpV, len = ops.length ∧ OpsAt w a ops ∧ len ≤ maxLen := by
  subst hv
  obtain ⟨fuel, hf⟩ := h
  rcases Deep.open_slice Try.underlying22 hf with ⟨hcs, _⟩ | ⟨x, l, c, m, n, D, Pl, hcs, _, hl, hm, hmm, _, hx⟩
  · simp [Value.cells] at hcs
    obtain ⟨rfl, rfl, rfl⟩ := hcs
    exact ⟨[], rfl, .inl rfl, Nat.zero_le _⟩
  · simp [Value.cells] at hcs
    obtain ⟨rfl, rfl, rfl⟩ := hcs
    simp only [if_true] at hmm
    subst hmm
    rw [cells29] at hx
    by_cases h0 : len = 0
    · exact ⟨[], by simpa using h0, .inl rfl, by omega⟩
    · obtain ⟨b, off, spot⟩ := x
      have hspot : spot = none := by
        obtain ⟨cs', h1, h2⟩ := hx 0 (by omega)
        obtain ⟨o, ho, rfl⟩ := op_of h2
        have hc := (cellsUp h1).2 0 _ rfl
        have := World.cell?_spot hc
        simpa [Addr.add] using this
      subst hspot
      have hall : ∀ i, i < m → ∃ o : OpV, o.ok ∧ OpCells w b (off + i * 6) o := fun i hi => by
        obtain ⟨cs', h1, h2⟩ := hx i hi
        obtain ⟨o, ho, rfl⟩ := op_of h2
        have hc := (cellsUp h1).2
        have g0 := hc 0 _ rfl
        have g1 := hc 1 _ rfl
        have g2 := hc 2 _ rfl
        have g3 := hc 3 _ rfl
        have g4 := hc 4 _ rfl
        have g5 := hc 5 _ rfl
        rw [add_add] at g0 g1 g2 g3 g4 g5
        exact ⟨o, ho, g0, g1, g2, g3, g4, g5⟩
      have hbw : b < w.heap.size := by
        obtain ⟨o, ho, hc, _⟩ := hall 0 (by omega)
        exact World.block_lt_of_cell? w _ hc
      have hV : ∃ V : Nat → OpV, ∀ i, i < m → (V i).ok ∧ OpCells w b (off + i * 6) (V i) :=
        ⟨fun i => if hi : i < m then Classical.choose (hall i hi) else ⟨0, 0, 0, 0, 0, 0⟩, fun i hi => by
          simp only [hi, dite_true]
          exact Classical.choose_spec (hall i hi)⟩
      obtain ⟨V, hV⟩ := hV
      refine ⟨(List.range len).map V, by simp, .inr ⟨b, off, rfl, hbw, fun i hi => ?_⟩, by omega⟩
      simp only [List.length_map, List.length_range] at hi
      simp only [List.getElem_map, List.getElem_range]
      exact hV i (by omega)

end
end Go.Proofs.Ytkdbclnnmpnfgaa

