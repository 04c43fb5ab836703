/- The chapter's examples: shown. -/
import Derived.Test.YtbgmehanhilicaaK23
import Derived.Test.YtbgmehanhilicaaK11
import Derived.ProofKit
import Derived.OpenShut
import Derived.ShutString
import Derived.ChangeOld
import Derived.SliceStrings
import Derived.Deep.Slices
import Derived.Lib.SmallJoins
namespace Go.Proofs.Ytbgmehanhilicaa
open Go.RowKit Go.Maps
set_option maxRecDepth 100000
set_option linter.unusedSimpArgs false
set_option linter.unusedVariables false

abbrev NoB : Nat → Prop := fun _ => False
theorem LF.turn' {w0 w : World} {X q a size s} (h : LF w0 w X q a size s) (t v : Int) (c : Nat) (s' : LSt) (hT : turnE size s t v = (c, s')) : Calls Try.prog 17 #[.pointer (some ⟨q, 0, none⟩), .int .i64 t, .int .i64 v] w fun e w' => e = .returned (.int .i64 (c : Int)) ∧ LF w0 w' X q a size s' := by
  have := h.turn t v
  rw [hT] at this
  exact this.mono fun e w' ⟨e1, e2⟩ => ⟨e1, e2.1⟩
theorem LF.snap' {w0 w : World} {X q a size s} (h : LF w0 w X q a size s) (i t : Int) (d : List UInt8) (hd : d.length ≤ 1000) (c : Nat) (s' : LSt) (hT : snapE size s i t d = (c, s')) : Calls Try.prog 10 #[.pointer (some ⟨q, 0, none⟩), .int .i64 i, .int .i64 t, .string (strOf d)] w fun e w' => e = .returned (.int .i64 (c : Int)) ∧ LF w0 w' X q a size s' := by
  have := h.snap i t d (by omega)
  rw [hT] at this
  exact this.mono fun e w' ⟨e1, e2⟩ => ⟨e1, e2.1⟩
theorem LF.less {w0 w : World} {X q a size s} (h : LF w0 w X q a size s) : LF w0 w NoB q a size s := h.with (Below.refl _ _) NoB (fun k hk => hk.elim)
theorem LF.putRow {w0 w w1 : World} {X q a size s} (h : LF w0 w X q a size s) (hb : Below w.heap.size w w1) {v : Value} {l : List Et} (he : EL w1 v l) (ho : ∀ k, v.ownBlock = some k → w.heap.size ≤ k) (hl : l.length ≤ 1000) (after : Int) (c : Nat) (s' : LSt) (hP : putE (size - totalA s.fs) s after l = (c, s')) :
    Calls Try.prog 11 #[.pointer (some ⟨q, 0, none⟩), .int .i64 after, v] w1 fun e w' => e = .returned (.int .i64 (c : Int)) ∧ LF w0 w' NoB q a size s' := by
  have h1 := h.with hb (fun k => v.ownBlock = some k) (fun k hk => .inr ⟨ho k hk, he.lt k hk⟩)
  obtain ⟨oa, cap, rfl, hcap, hcm, _, _⟩ := he.shape
  have := h1.put he.at hl hcap hcm (fun _ ad had => .inl (by subst had; rfl)) after
  rw [hP] at this
  exact this.mono fun e w' ⟨e1, e2⟩ => ⟨e1, e2.1.less⟩
theorem LF.putNone {w0 w : World} {X q a size s} (h : LF w0 w X q a size s) (after : Int) (c : Nat) (s' : LSt) (hP : putE (size - totalA s.fs) s after [] = (c, s')) :
    Calls Try.prog 11 #[.pointer (some ⟨q, 0, none⟩), .int .i64 after, .slice none 0 0] w fun e w' => e = .returned (.int .i64 (c : Int)) ∧ LF w0 w' NoB q a size s' := by
  have := h.put (oa := none) (cap := 0) (l := []) (fun h0 => by simp at h0) (by simp) (by simp) (Nat.zero_le _) (by intro _ ad had; cases had) after
  rw [hP] at this
  exact this.mono fun e w' ⟨e1, e2⟩ => ⟨e1, e2.1.less⟩
set_option maxHeartbeats 6400000 in
theorem shown_any (w : World) : Calls Try.prog 5 #[] w fun e w' => e = .returned (.bool true) ∧ Below w.heap.size w w' := by
  have HN := hid (newA 10000 w (by omega) (by omega))
  go_enter Try.func5, Try.ntmps5
  go_wp2_with fail
  refine HN.out.mono ?_
  rintro e w1 ⟨rfl, hd1, hb1⟩
  have HO := hid (LF.new hd1 w hb1 (fun k hk => by omega))
  clear HN hb1 hd1
  go_wp2_with fail
  refine HO.out.mono ?_
  rintro e w2 ⟨rfl, h2⟩
  clear HO
  obtain ⟨q, hq⟩ : ∃ q, q = w1.heap.size := ⟨_, rfl⟩
  rw [← hq] at h2 ⊢
  clear hq
  obtain ⟨a, ha⟩ : ∃ a, a = w.heap.size := ⟨_, rfl⟩
  rw [← ha] at h2 ⊢
  have HA := hid ha
  clear ha
  have C2 := hid h2
  clear h2
  have R := hid (C2.out.turn' 1 2 _ _ t1)
  go_wp2_with fail
  refine R.out.mono ?_
  rintro e w3 ⟨rfl, h3⟩
  clear R
  have C3 := hid h3
  clear h3 C2
  have R := hid (C3.out.turn' 1 3 _ _ t2)
  go_wp2_with fail
  refine R.out.mono ?_
  rintro e w4 ⟨rfl, h4⟩
  clear R
  have C4 := hid h4
  clear h4 C3
  have R := hid (C4.out.turn' 0 0 _ _ t3)
  go_wp2_with fail
  refine R.out.mono ?_
  rintro e w5 ⟨rfl, h5⟩
  clear R
  have C5 := hid h5
  clear h5 C4
  have R := hid (C5.out.turn' 2 0 _ _ t4)
  go_wp2_with fail
  refine R.out.mono ?_
  rintro e w6 ⟨rfl, h6⟩
  clear R
  have C6 := hid h6
  clear h6 C5
  have R := hid ((show Calls Try.prog 18 #[.pointer (some ⟨q, 0, none⟩)] w6 fun e w' => e = .returned (.int .i64 2) ∧ w6 = w' from C6.out.term))
  go_wp2_with fail
  refine R.out.mono ?_
  rintro e w7 ⟨rfl, rfl⟩
  clear R
  have R := hid ((show Calls Try.prog 19 #[.pointer (some ⟨q, 0, none⟩)] w6 fun e w' => e = .returned (.int .i64 0) ∧ w6 = w' from C6.out.vote))
  go_wp2_with fail
  refine R.out.mono ?_
  rintro e w7 ⟨rfl, rfl⟩
  clear R
  have R := hid (some_any 0 2 1 w6 (by omega) (by omega) (by omega))
  go_wp2_with fail
  refine R.out.mono ?_
  rintro e w7 ⟨v, rfl, he, ho, hb⟩
  clear R
  have R2 := hid (C6.out.putRow hb he ho (by decide) 0 _ _ p1)
  obtain ⟨oa, cap, rfl, _⟩ := he.shape
  clear he ho hb
  go_wp2_with fail
  refine R2.out.mono ?_
  rintro e w8 ⟨rfl, h8⟩
  clear R2
  have C8 := hid h8
  clear h8 C6
  have R := hid (some_any 1 1 2 w8 (by omega) (by omega) (by omega))
  go_wp2_with fail
  refine R.out.mono ?_
  rintro e w9 ⟨v, rfl, he, ho, hb⟩
  clear R
  have R2 := hid (C8.out.putRow hb he ho (by decide) 1 _ _ p2)
  obtain ⟨oa, cap, rfl, _⟩ := he.shape
  clear he ho hb
  go_wp2_with fail
  refine R2.out.mono ?_
  rintro e w10 ⟨rfl, h10⟩
  clear R2
  have C10 := hid h10
  clear h10 C8
  have R := hid ((show Calls Try.prog 8 #[.pointer (some ⟨q, 0, none⟩)] w10 fun e w' => e = .returned (.tuple #[.int .i64 2, .int .i64 2]) ∧ Below w10.heap.size w10 w' from (by have := C10.out.last; rw [l4] at this; exact this)))
  go_wp2_with fail
  refine R.out.mono ?_
  rintro e w11 ⟨rfl, hb⟩
  clear R
  have C11 := hid (C10.out.under hb)
  clear hb C10
  have R := hid ((show Calls Try.prog 15 #[.pointer (some ⟨q, 0, none⟩), .int .i64 2] w11 fun e w' => e = .returned (.tuple #[.agg #[.int .i64 2, .int .i64 2, .string (strOf [100])], .bool true]) ∧ Below w11.heap.size w11 w' from (by have := C11.out.at 2; rw [a4] at this; exact this)))
  go_wp2_with fail
  refine R.out.mono ?_
  rintro e w12 ⟨rfl, hb⟩
  clear R
  have C12 := hid (C11.out.under hb)
  clear hb C11
  have CA := hid (C12.out.under ((Below.refl _ _).alloc (Nat.le_refl _) (.cells #[.int .i64 2, .int .i64 2, .string (strOf [100])] 38)))
  have R := hid (some_any 1 2 2 (w12.alloc (.cells #[.int .i64 2, .int .i64 2, .string (strOf [100])] 38)) (by omega) (by omega) (by omega))
  go_wp2_with fail
  refine R.out.mono ?_
  rintro e w13 ⟨v, rfl, he, ho, hb⟩
  clear R
  have R2 := hid (CA.out.putRow hb he ho (by decide) 1 _ _ p3)
  obtain ⟨oa, cap, rfl, _⟩ := he.shape
  clear he ho hb CA C12
  go_wp2_with fail
  refine R2.out.mono ?_
  rintro e w14 ⟨rfl, h14⟩
  clear R2
  have C14 := hid h14
  clear h14
  have R := hid (C14.out.putNone 5 _ _ p4)
  go_wp2_with fail
  refine R.out.mono ?_
  rintro e w15 ⟨rfl, h15⟩
  clear R
  have C15 := hid h15
  clear h15 C14
  have R := hid (C15.out.from 2 9)
  go_wp2_with fail
  refine R.out.mono ?_
  rintro e w16 ⟨v, rfl, he, ho, hb⟩
  clear R
  obtain ⟨oa, cap, hv, _⟩ := he.shape
  rw [f5] at hv
  subst hv
  have C16 := hid (C15.out.under hb)
  clear hb he ho C15
  have R := hid ((show Calls Try.prog 10 #[.pointer (some ⟨q, 0, none⟩), .int .i64 2, .int .i64 2, .string ⟨#[115]⟩] w16 fun e w' => e = .returned (.int .i64 ((0 : Nat) : Int)) ∧ LF w w' NoB q a 10000 x6 from C16.out.snap' 2 2 [115] (by decide) _ _ q1))
  go_wp2_with fail
  refine R.out.mono ?_
  rintro e w17 ⟨rfl, h17⟩
  clear R
  have C17 := hid h17
  clear h17 C16
  have R := hid ((show Calls Try.prog 14 #[.pointer (some ⟨q, 0, none⟩)] w17 fun e w' => e = .returned (.int .i64 3) ∧ w17 = w' from C17.out.first))
  go_wp2_with fail
  refine R.out.mono ?_
  rintro e w18 ⟨rfl, rfl⟩
  clear R
  have R := hid ((show Calls Try.prog 15 #[.pointer (some ⟨q, 0, none⟩), .int .i64 2] w17 fun e w' => e = .returned (.tuple #[.agg #[.int .i64 0, .int .i64 0, .string ⟨#[]⟩], .bool false]) ∧ Below w17.heap.size w17 w' from (by have := C17.out.at 2; rw [a6] at this; exact this)))
  go_wp2_with fail
  refine R.out.mono ?_
  rintro e w18 ⟨rfl, hb⟩
  clear R
  have C18 := hid (C17.out.under hb)
  clear hb C17
  have R := hid ((show Calls Try.prog 12 #[.pointer (some ⟨q, 0, none⟩)] w18 fun e w' => e = .returned (.tuple #[.int .i64 2, .int .i64 2, .string ⟨#[115]⟩]) ∧ Below w18.heap.size w18 w' from C18.out.snapshot))
  go_wp2_with fail
  refine R.out.mono ?_
  rintro e w19 ⟨rfl, hb⟩
  clear R
  have C19 := hid (C18.out.under hb)
  clear hb C18
  have R := hid ((show Calls Try.prog 10 #[.pointer (some ⟨q, 0, none⟩), .int .i64 9, .int .i64 5, .string ⟨#[116]⟩] w19 fun e w' => e = .returned (.int .i64 ((0 : Nat) : Int)) ∧ LF w w' NoB q a 10000 x7 from C19.out.snap' 9 5 [116] (by decide) _ _ q2))
  go_wp2_with fail
  refine R.out.mono ?_
  rintro e w20 ⟨rfl, h20⟩
  clear R
  have C20 := hid h20
  clear h20 C19
  have R := hid (C20.out.from 1 9)
  go_wp2_with fail
  refine R.out.mono ?_
  rintro e w21 ⟨v, rfl, he, ho, hb⟩
  clear R
  obtain ⟨oa, cap, hv, _⟩ := he.shape
  rw [f7] at hv
  subst hv
  have C21 := hid (C20.out.under hb)
  clear hb he ho C20
  go_wp2_with fail
  go_ret
  exact ⟨rfl, C21.out.below⟩
end Go.Proofs.Ytbgmehanhilicaa

/- What the arguments of a statement are in memory: a script of calls. -/
namespace Go.Proofs.Ytbgmehanhilicaa
open Go.ChangeShapes Go.WideShapes Go.ChangeAt Go.RowKit
set_option linter.unusedVariables false
set_option linter.unusedSimpArgs false
set_option maxRecDepth 100000

theorem own : ownKnob Try.prog.godebug = none := by kernel_rfl
theorem laidOut : laidOutB Try.prog = true := by kernel_rfl
theorem cells38 : Try.prog.cellsOf 38 = 3 := by kernel_rfl
theorem cells34 : Try.prog.cellsOf 34 = 7 := by kernel_rfl
theorem cells31 : Try.prog.cellsOf 31 = 1 := by kernel_rfl
theorem cells32 : Try.prog.cellsOf 32 = 1 := by kernel_rfl
theorem ocells3 : Try.prog.cellsOf 3 = 1 := by kernel_rfl
theorem ocells4 : Try.prog.cellsOf 4 = 1 := by kernel_rfl
theorem ocells9 : Try.prog.cellsOf 9 = 1 := by kernel_rfl
/-- A call of a script. -/
structure OpV where
  kind : Int
  n : Int
  m : Int
  text : List UInt8
  la : Option Addr
  lc : Nat
  l : List Et
  fits : Bool
  kv : Value
structure OpV.ok (w : World) (x : OpV) : Prop where
  k : I64 x.kind
  n : I64 x.n
  m : I64 x.m
  t : x.text.length ≤ maxLen
  e : EAt w x.la x.l
  c : x.l.length ≤ x.lc
  cm : x.lc ≤ maxLen
  nn : x.la = none → x.lc = 0
  kv : ∃ a n c, x.kv = .slice a n c
def OpV.cells (x : OpV) : List Value := [.int .i64 x.kind, .int .i64 x.n, .int .i64 x.m, .string (strOf x.text), .slice x.la x.l.length x.lc, .bool x.fits, x.kv]
/-- A script in memory. -/
def OpsAt (w : World) (so : Option Addr) (ops : List OpV) : Prop :=
  ops = [] ∨ ∃ b off, so = some ⟨b, off, none⟩ ∧ b < w.heap.size ∧ ∀ i (hi : i < ops.length), ops[i].ok w ∧ ∀ j u, (ops[i].cells)[j]? = some u → w.cell? ⟨b, off + i * 7 + j, none⟩ = some u
section
variable {H : Type} {enc : TypeId × Value → H} {w : World} {base : Nat} {spare : Nat → Bool} {held : Bool}
theorem cellsUp {a : Addr} {n : Nat} {cs : List Value} (h : w.cells? base a n = some cs) : cs.length = n ∧ ∀ (i : Nat) (c : Value), cs[i]? = some c → w.cell? (a.add i) = some c := by
  unfold World.cells? at h
  split at h
  · have step : ∀ (r : List Nat) (z : List Value), List.mapM (fun i => w.cell? (a.add i)) r = some z → z.length = r.length ∧ ∀ (i j : Nat) (c : Value), r[i]? = some j → z[i]? = some c → w.cell? (a.add j) = some c := by
      intro r
      induction r with
      | nil => intro z hz; have e : z = [] := by simpa using hz.symm
               subst e; exact ⟨rfl, fun i j c hi => by simp at hi⟩
      | cons x r ih =>
        intro z hz
        rw [List.mapM_cons] at hz
        obtain ⟨c, h1, h2⟩ := Option.bind_eq_some_iff.1 hz
        obtain ⟨t, h3, h4⟩ := Option.bind_eq_some_iff.1 h2
        have e : z = c :: t := (Option.some.inj h4).symm
        subst e
        obtain ⟨i1, i2⟩ := ih t h3
        refine ⟨by simp [i1], fun i j d hi hd => ?_⟩
        cases i with
        | zero => simp at hi hd; subst hi; subst hd; exact h1
        | succ i => exact i2 i j d (by simpa using hi) (by simpa using hd)
    obtain ⟨s1, s2⟩ := step _ _ h
    refine ⟨by simpa using s1, fun i c hi => s2 i i c ?_ hi⟩
    have := (List.getElem?_eq_some_iff.1 hi).1
    rw [s1] at this
    rw [List.getElem?_range (by simpa using this)]
  · cases h
theorem add_add (b o i j : Nat) : ((⟨b, o, none⟩ : Addr).add i).add j = ⟨b, o + i + j, none⟩ := by
  have h : ∀ o i, (⟨b, o, none⟩ : Addr).add i = ⟨b, o + i, none⟩ := fun o i => by unfold Addr.add; split <;> simp_all
  rw [h, h]
theorem strOf_eq2 (s : ByteArray) : strOf s.data.toList = s := by cases s; simp [strOf]
theorem ent_of {fuel : Nat} {cs : List Value} {x : DataW H × List MemPlace} (h : DataW.trod enc Try.prog w 0 (fun _ => true) true fuel 38 cs = some x) :
    ∃ r : Et, cs = [.int .i64 r.t, .int .i64 r.i, .string (strOf r.d)] := by
  obtain ⟨xs, n, _, rfl, hl, hlen, hf⟩ := DataW.trod_struct Try.underlying38 h
  rw [cells38] at hl
  match cs, hl, xs, hlen with
  | [c0, c1, c2], _, [y0, y1, y2], _ =>
    have h0 := hf 0 _ rfl
    have h1 := hf 1 _ rfl
    have h2 := hf 2 _ rfl
    simp only [ocells3, ocells9, List.drop_zero, List.drop_succ_cons, List.take_succ_cons, List.take_zero, List.getElem?_cons_zero, List.getElem?_cons_succ] at h0 h1 h2
    obtain ⟨k0, e0, _, w0⟩ := DataW.trod_int Try.underlying3 h0
    obtain ⟨k1, e1, _, w1⟩ := DataW.trod_int Try.underlying3 h1
    obtain ⟨s2, e2, _, w2⟩ := DataW.trod_string Try.underlying9 h2
    simp [ocells3, ocells9] at e0 e1 e2
    subst e0 e1 e2
    exact ⟨⟨k0, k1, s2.data.toList⟩, by simp only [strOf_eq2]⟩
theorem ents_in {cs : List Value} {fuel : Nat} {x : DataW H × List MemPlace} {v : Value} (hv : cs = [v]) (hf : DataW.trod enc Try.prog w 0 (fun _ => true) true fuel 31 cs = some x) :
    ∃ (zs : List Et) (a : Option Addr) (cap : Nat), v = .slice a zs.length cap ∧ EAt w a zs ∧ zs.length ≤ cap ∧ cap ≤ maxLen ∧ (a = none → cap = 0) := by
  subst hv
  rcases Deep.open_slice Try.underlying31 hf with ⟨hcs, _⟩ | ⟨x, l, c, m, n, D, Pl, hcs, _, hl, hm, hmm, _, hx⟩
  · simp at hcs
    subst hcs
    exact ⟨[], none, 0, rfl, fun h => by simp at h, by simp, Nat.zero_le _, fun _ => rfl⟩
  · simp at hcs
    subst hcs
    simp only [if_true] at hmm
    subst hmm
    rw [cells38] at hx
    by_cases h0 : l = 0
    · subst h0
      exact ⟨[], _, _, rfl, fun h => by simp at h, by simp, hm, fun h => by cases h⟩
    · obtain ⟨b, off, spot⟩ := x
      have hspot : spot = none := by
        obtain ⟨cs', h1, h2⟩ := hx 0 (by omega)
        obtain ⟨o, rfl⟩ := ent_of h2
        have hc := (cellsUp h1).2 0 _ rfl
        have := World.cell?_spot hc
        simpa [Addr.add] using this
      subst hspot
      have hall : ∀ i, i < m → ∃ o : Et, ∀ j u, (ecells o)[j]? = some u → w.cell? ⟨b, off + i * 3 + j, none⟩ = some u := fun i hi => by
        obtain ⟨cs', h1, h2⟩ := hx i hi
        obtain ⟨o, rfl⟩ := ent_of h2
        have hc := (cellsUp h1).2
        refine ⟨o, fun j u hu => ?_⟩
        have g := hc j u hu
        rw [add_add] at g
        exact g
      have hbw : b < w.heap.size := by
        obtain ⟨o, hc⟩ := hall 0 (by omega)
        exact World.block_lt_of_cell? w _ (hc 0 _ rfl)
      have hV : ∃ V : Nat → Et, ∀ i, i < m → ∀ j u, (ecells (V i))[j]? = some u → w.cell? ⟨b, off + i * 3 + j, none⟩ = some u :=
        ⟨fun i => if hi : i < m then Classical.choose (hall i hi) else ⟨0, 0, []⟩, fun i hi => by
          simp only [hi, dite_true]
          exact Classical.choose_spec (hall i hi)⟩
      obtain ⟨V, hV⟩ := hV
      refine ⟨(List.range l).map V, some ⟨b, off, none⟩, m, by rw [List.length_map, List.length_range], fun _ => ⟨b, off, rfl, hbw, fun j u hu => ?_⟩, by simp only [List.length_map, List.length_range]; omega, hm, fun h => by cases h⟩
      have hjl : j < l * 3 := by
        have := (List.getElem?_eq_some_iff.1 hu).1
        rw [flatT_length, List.length_map, List.length_range] at this
        exact this
      have hget : ((List.range l).map V)[j / 3]? = some (V (j / 3)) := by
        rw [List.getElem?_map, List.getElem?_range (by omega)]
        rfl
      obtain ⟨f0, f1, f2⟩ := flatT_at _ _ _ hget
      have hc := hV (j / 3) (by omega)
      have h3 : j % 3 = 0 ∨ j % 3 = 1 ∨ j % 3 = 2 := by omega
      rcases h3 with h3 | h3 | h3
      · have e : j = j / 3 * 3 := by omega
        rw [e] at hu
        rw [f0] at hu
        have := hc 0 _ rfl
        rw [show off + j = off + j / 3 * 3 + 0 by omega, this]
        exact hu
      · have e : j = j / 3 * 3 + 1 := by omega
        rw [e] at hu
        rw [f1] at hu
        have := hc 1 _ rfl
        rw [show off + j = off + j / 3 * 3 + 1 by omega, this]
        exact hu
      · have e : j = j / 3 * 3 + 2 := by omega
        rw [e] at hu
        rw [f2] at hu
        have := hc 2 _ rfl
        rw [show off + j = off + j / 3 * 3 + 2 by omega, this]
        exact hu
theorem op_of {fuel : Nat} {cs : List Value} {x : DataW H × List MemPlace} (h : DataW.trod enc Try.prog w 0 (fun _ => true) true fuel 34 cs = some x) :
    ∃ o : OpV, o.ok w ∧ cs = o.cells := by
  obtain ⟨xs, n, _, rfl, hl, hlen, hf⟩ := DataW.trod_struct Try.underlying34 h
  rw [cells34] at hl
  match cs, hl, xs, hlen with
  | [c0, c1, c2, c3, c4, c5, c6], _, [y0, y1, y2, y3, y4, y5, y6], _ =>
    have h0 := hf 0 _ rfl
    have h1 := hf 1 _ rfl
    have h2 := hf 2 _ rfl
    have h3 := hf 3 _ rfl
    have h4 := hf 4 _ rfl
    have h5 := hf 5 _ rfl
    have h6 := hf 6 _ rfl
    simp only [ocells3, ocells9, ocells4, cells31, cells32, List.drop_zero, List.drop_succ_cons, List.take_succ_cons, List.take_zero, List.getElem?_cons_zero, List.getElem?_cons_succ] at h0 h1 h2 h3 h4 h5 h6
    obtain ⟨k0, e0, _, w0⟩ := DataW.trod_int Try.underlying3 h0
    obtain ⟨k1, e1, _, w1⟩ := DataW.trod_int Try.underlying3 h1
    obtain ⟨k2, e2, _, w2⟩ := DataW.trod_int Try.underlying3 h2
    obtain ⟨s3, e3, _, w3⟩ := DataW.trod_string Try.underlying9 h3
    obtain ⟨zs, a, cap, e4, w4, w5, w6, w7⟩ := ents_in rfl h4
    obtain ⟨b5, e5, _⟩ := DataW.trod_bool Try.underlying4 h5
    have e6 : ∃ a n c, c6 = .slice a n c := by
      rcases Deep.open_slice Try.underlying32 h6 with ⟨hcs, _⟩ | ⟨x, l, c, m, n, D, Pl, hcs, _⟩
      · simp [cells32] at hcs; exact ⟨_, _, _, hcs⟩
      · simp [cells32] at hcs; exact ⟨_, _, _, hcs⟩
    simp [ocells3, ocells9, ocells4] at e0 e1 e2 e3 e5
    subst e0 e1 e2 e3 e4 e5
    exact ⟨⟨k0, k1, k2, s3.data.toList, a, cap, zs, b5, c6⟩, ⟨bounds_i64 w0, bounds_i64 w1, bounds_i64 w2, by simpa using w3, w4, w5, w6, w7, e6⟩, by simp only [OpV.cells, strOf_eq2]⟩
/-- A script that came in. -/
theorem script_of {v : Value} {d : DataW H} {p : List MemPlace} {a : Option Addr} {len cap : Nat} (hv : v = .slice a len cap) (h : DataW.Trod enc Try.prog w 0 (fun _ => true) true 22 v d p) :
    ∃ ops : List OpV, len = ops.length ∧ OpsAt w a ops ∧ len ≤ maxLen := by
  subst hv
  obtain ⟨fuel, hf⟩ := h
  rcases Deep.open_slice Try.underlying22 hf with ⟨hcs, _⟩ | ⟨x, l, c, m, n, D, Pl, hcs, _, hl, hm, hmm, _, hx⟩
  · simp [Value.cells] at hcs
    obtain ⟨rfl, rfl, rfl⟩ := hcs
    exact ⟨[], rfl, .inl rfl, Nat.zero_le _⟩
  · simp [Value.cells] at hcs
    obtain ⟨rfl, rfl, rfl⟩ := hcs
    simp only [if_true] at hmm
    subst hmm
    rw [cells34] at hx
    by_cases h0 : len = 0
    · exact ⟨[], by simpa using h0, .inl rfl, by omega⟩
    · obtain ⟨b, off, spot⟩ := x
      have hspot : spot = none := by
        obtain ⟨cs', h1, h2⟩ := hx 0 (by omega)
        obtain ⟨o, ho, rfl⟩ := op_of h2
        have hc := (cellsUp h1).2 0 _ rfl
        have := World.cell?_spot hc
        simpa [Addr.add] using this
      subst hspot
      have hall : ∀ i, i < m → ∃ o : OpV, o.ok w ∧ ∀ j u, (o.cells)[j]? = some u → w.cell? ⟨b, off + i * 7 + j, none⟩ = some u := fun i hi => by
        obtain ⟨cs', h1, h2⟩ := hx i hi
        obtain ⟨o, ho, rfl⟩ := op_of h2
        have hc := (cellsUp h1).2
        refine ⟨o, ho, fun j u hu => ?_⟩
        have g := hc j u hu
        rw [add_add] at g
        exact g
      have hbw : b < w.heap.size := by
        obtain ⟨o, ho, hc⟩ := hall 0 (by omega)
        exact World.block_lt_of_cell? w _ (hc 0 _ rfl)
      have hV : ∃ V : Nat → OpV, ∀ i, i < m → (V i).ok w ∧ ∀ j u, ((V i).cells)[j]? = some u → w.cell? ⟨b, off + i * 7 + j, none⟩ = some u :=
        ⟨fun i => if hi : i < m then Classical.choose (hall i hi) else ⟨0, 0, 0, [], none, 0, [], false, .slice none 0 0⟩, fun i hi => by
          simp only [hi, dite_true]
          exact Classical.choose_spec (hall i hi)⟩
      obtain ⟨V, hV⟩ := hV
      refine ⟨(List.range len).map V, by simp, .inr ⟨b, off, rfl, hbw, fun i hi => ?_⟩, by omega⟩
      simp only [List.length_map, List.length_range] at hi
      simp only [List.getElem_map, List.getElem_range]
      exact hV i (by omega)
end
end Go.Proofs.Ytbgmehanhilicaa

