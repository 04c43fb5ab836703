/- The reader of pieces: what is left of some bytes, in memory. -/
import Derived.Test.YtocdlaoklagdoaaDoorG3
import Derived.Test.YtocdlaoklagdoaaDoorG0
import Derived.Lib.BufferWrite
namespace Go.Proofs.YtocdlaoklagdoaaDoor
open Go.RowKit Go.Maps
set_option linter.unusedSimpArgs false
set_option linter.unusedVariables false
set_option maxRecDepth 100000

/-- A reader in block q. -/
structure Pd (w : World) (q : Nat) (s : RS) : Prop where
  box : w.heap[q]? = some (.cells #[.string (strOf s.rest), .bool s.wrong] 80)
  len : s.rest.length ≤ maxLen
theorem Pd.c0 {w : World} {q : Nat} {s : RS} (h : Pd w q s) : w.cell? ⟨q, 0, none⟩ = some (.string (strOf s.rest)) := cell_blk h.box 0 _ rfl
theorem Pd.c1 {w : World} {q : Nat} {s : RS} (h : Pd w q s) : w.cell? ⟨q, 1, none⟩ = some (.bool s.wrong) := cell_blk h.box 1 _ rfl
theorem Pd.f {w : World} {q : Nat} {s : RS} (h : Pd w q s) (j : Nat) : w.frozen? ⟨q, j, none⟩ = false := frozen_blk h.box j
theorem Pd.lt {w : World} {q : Nat} {s : RS} (h : Pd w q s) : q < w.heap.size := by
  rcases Nat.lt_or_ge q w.heap.size with h1 | h1
  · exact h1
  · have := h.box; rw [Array.getElem?_eq_none h1] at this; cases this
theorem Pd.set0 {w : World} {q : Nat} {s : RS} (h : Pd w q s) (l : List UInt8) (hl : l.length ≤ maxLen) : Pd (w.setCell ⟨q, 0, none⟩ (.string (strOf l))) q ⟨l, s.wrong⟩ := by
  refine ⟨?_, hl⟩
  rw [setCell_eq_setRow w q 0 _ 80 (0, 0) _ h.box, setRow_heap w q _ _ 80 (0, 0) h.box]
  rfl
theorem Pd.spoil {w : World} {q : Nat} {s : RS} (h : Pd w q s) : Pd ((w.setCell ⟨q, 0, none⟩ (.string ⟨#[]⟩)).setCell ⟨q, 1, none⟩ (.bool true)) q spoiled := by
  have h1 := h.set0 [] (by simp)
  refine ⟨?_, by simp [spoiled]⟩
  have h1b := h1.box
  have e : (Value.string (strOf [])) = .string ⟨#[]⟩ := rfl
  rw [e] at h1b
  rw [setCell_eq_setRow _ q 1 _ 80 (0, 0) _ h1b, setRow_heap _ q _ _ 80 (0, 0) h1b]
  rfl
theorem Pd.kept {w w' : World} {q : Nat} {s : RS} (h : Pd w q s) (hb : w'.heap[q]? = w.heap[q]?) : Pd w' q s := ⟨hb.trans h.box, h.len⟩

set_option maxHeartbeats 400000 in
theorem pspoil_any {w : World} {q : Nat} {s : RS} (h : Pd w q s) : Calls Tryd.prog 79 #[.pointer (some ⟨q, 0, none⟩)] w fun e w' => e = .returned (.tuple #[]) ∧ Pd w' q spoiled ∧ w.grownBy w' (some q) := by
  have c0 := h.c0
  have c1 := h.c1
  have f0 := h.f 0
  have f1 := h.f 1
  have HF : Hid (Pd ((w.setCell ⟨q, 0, none⟩ (.string ⟨#[]⟩)).setCell ⟨q, 1, none⟩ (.bool true)) q spoiled ∧ w.grownBy ((w.setCell ⟨q, 0, none⟩ (.string ⟨#[]⟩)).setCell ⟨q, 1, none⟩ (.bool true)) (some q)) :=
    ⟨h.spoil, (Lib.grownBy_setCell w q 0 _).trans (Lib.grownBy_setCell _ q 1 _)⟩
  clear h
  go_enter Tryd.func79, Tryd.ntmps79
  go_wp2
  go_end0
  exact ⟨rfl, HF.out⟩

set_option maxHeartbeats 800000 in
theorem pnum_any {w : World} {q : Nat} {s : RS} (h : Pd w q s) : Calls Tryd.prog 51 #[.pointer (some ⟨q, 0, none⟩)] w fun e w' => e = .returned (.int .i64 (numS s).1) ∧ Pd w' q (numS s).2 ∧ w.grownBy w' (some q) := by
  have c0 := h.c0
  have f0 := h.f 0
  have H10 := hid (readInt_any (strOf s.rest) w (by rw [strOf_size]; exact h.len))
  rw [strOf_data] at H10
  have HS := hid (pspoil_any h)
  have hlen := h.len
  unfold maxLen at hlen
  have hrg := readL_range s.rest
  have HH := hid h
  have HN : Hid (numS s = if (readL s.rest).2.2 = 0 then ((readL s.rest).1, ⟨s.rest.drop (readL s.rest).2.1, s.wrong⟩) else (0, spoiled)) := rfl
  clear h
  have hsz := strOf_size s.rest
  generalize readL s.rest = R at *
  obtain ⟨n, k, e⟩ := R
  simp only at *
  obtain ⟨hn, hk, _⟩ := hrg
  by_cases he : e = 0
  · subst he
    have hx := extract_drop s.rest k
    have HF : Hid (numS s = (n, ⟨s.rest.drop k, s.wrong⟩)) := by show _ = _; rw [HN.out, if_pos rfl]
    have hk' : (k : Int) ≤ ((strOf s.rest).size : Int) := by rw [hsz]; omega
    have HD := hid (HH.out.set0 (s.rest.drop k) (by simp; unfold maxLen; omega))
    go_enter Tryd.func51, Tryd.ntmps51
    go_wp2_with (go_at_call 78; refine H10.out.mono ?_; rintro e w' ⟨rfl, rfl⟩)
    go_ret
    exact ⟨by rw [HF.out]; rfl, by rw [HF.out]; exact HD.out, Lib.grownBy_setCell _ q 0 _⟩
  · have hne : (e != 0) = true := by simp [he]
    have HF : Hid (numS s = (0, spoiled)) := by show _ = _; rw [HN.out, if_neg he]
    clear he
    go_enter Tryd.func51, Tryd.ntmps51
    go_wp2_with (first | (go_at_call 78; refine H10.out.mono ?_; rintro e w' ⟨rfl, rfl⟩) | (go_at_call 79; refine HS.out.mono ?_; rintro e w2 ⟨rfl, hr2, hg2⟩))
    go_ret
    exact ⟨by rw [HF.out]; rfl, by rw [HF.out]; exact hr2, hg2⟩

set_option maxHeartbeats 800000 in
theorem pcount_any {w : World} {q : Nat} {s : RS} (h : Pd w q s) (most : Int) (hm : 0 ≤ most) : Calls Tryd.prog 80 #[.pointer (some ⟨q, 0, none⟩), .int .i64 most] w fun e w' => e = .returned (.int .i64 (countS most s).1) ∧ Pd w' q (countS most s).2 ∧ w.grownBy w' (some q) := by
  have H54 := hid (pnum_any h)
  have HN : Hid (countS most s = if (numS s).1 < 0 ∨ most < (numS s).1 then (0, spoiled) else numS s) := rfl
  clear h
  generalize numS s = N at *
  obtain ⟨n, s1⟩ := N
  simp only at *
  by_cases h1 : n < 0
  · have HF : Hid (countS most s = (0, spoiled)) := by show _ = _; rw [HN.out, if_pos (.inl h1)]
    go_enter Tryd.func80, Tryd.ntmps80
    go_wp2_with (go_at_call 51; refine H54.out.mono ?_; rintro e w1 ⟨rfl, hr1, hg1⟩)
    refine (pspoil_any hr1).mono ?_
    rintro e w2 ⟨rfl, hr2, hg2⟩
    go_wp2
    go_ret
    exact ⟨by rw [HF.out]; rfl, by rw [HF.out]; exact hr2, hg1.trans hg2⟩
  · by_cases h2 : most < n
    · have HF : Hid (countS most s = (0, spoiled)) := by show _ = _; rw [HN.out, if_pos (.inr h2)]
      go_enter Tryd.func80, Tryd.ntmps80
      go_wp2_with (go_at_call 51; refine H54.out.mono ?_; rintro e w1 ⟨rfl, hr1, hg1⟩)
      refine (pspoil_any hr1).mono ?_
      rintro e w2 ⟨rfl, hr2, hg2⟩
      go_wp2
      go_ret
      exact ⟨by rw [HF.out]; rfl, by rw [HF.out]; exact hr2, hg1.trans hg2⟩
    · have HF : Hid (countS most s = (n, s1)) := by show _ = _; rw [HN.out, if_neg (by omega)]
      go_enter Tryd.func80, Tryd.ntmps80
      go_wp2_with (go_at_call 51; refine H54.out.mono ?_; rintro e w1 ⟨rfl, hr1, hg1⟩)
      go_ret
      exact ⟨by rw [HF.out]; rfl, by rw [HF.out]; exact hr1, hg1⟩
set_option maxHeartbeats 1600000 in
theorem ptext_any {w : World} {q : Nat} {s : RS} (h : Pd w q s) (most : Int) (hm : 0 ≤ most) (hm2 : most ≤ 100000) : Calls Tryd.prog 55 #[.pointer (some ⟨q, 0, none⟩), .int .i64 most] w fun e w' => e = .returned (.string (strOf (textS most s).1)) ∧ Pd w' q (textS most s).2 ∧ w.grownBy w' (some q) := by
  have H50 := hid (pcount_any h most hm)
  have HN : Hid (textS most s = if ((countS most s).2.rest.length : Int) < (countS most s).1 then ([], spoiled) else ((countS most s).2.rest.take (countS most s).1.toNat, ⟨(countS most s).2.rest.drop (countS most s).1.toNat, (countS most s).2.wrong⟩)) := rfl
  have hrg := countS_range most s hm
  clear h
  generalize countS most s = N at *
  obtain ⟨n0, s1⟩ := N
  simp only at *
  obtain ⟨n, rfl⟩ := Int.eq_ofNat_of_zero_le hrg.1
  obtain ⟨_, hn⟩ := hrg
  have hsz := strOf_size s1.rest
  by_cases h1 : s1.rest.length < n
  · have h1' : ((strOf s1.rest).size : Int) < (n : Int) := by rw [hsz]; omega
    have h1'' : (s1.rest.length : Int) < (n : Int) := by omega
    have HF : Hid (textS most s = ([], spoiled)) := by show _ = _; rw [HN.out, if_pos (by omega)]
    go_enter Tryd.func55, Tryd.ntmps55
    go_wp2_with (go_at_call 80; refine H50.out.mono ?_; rintro e w1 ⟨rfl, hr1, hg1⟩; have d0 := hr1.c0)
    refine (pspoil_any hr1).mono ?_
    rintro e w2 ⟨rfl, hr2, hg2⟩
    go_wp2
    go_ret
    exact ⟨by rw [HF.out]; rfl, by rw [HF.out]; exact hr2, hg1.trans hg2⟩
  · have h1'' : ¬ (s1.rest.length : Int) < (n : Int) := by omega
    have HF : Hid (textS most s = (s1.rest.take n, ⟨s1.rest.drop n, s1.wrong⟩)) := by show _ = _; rw [HN.out, if_neg (by omega)]; simp
    have hx1 := extract_drop s1.rest n
    have hx2 := extract_take s1.rest n
    go_enter Tryd.func55, Tryd.ntmps55
    go_wp2_with (go_at_call 80; refine H50.out.mono ?_; rintro e w1 ⟨rfl, hr1, hg1⟩; have d0 := hr1.c0; have hl1 := hr1.len; unfold maxLen at hl1)
    refine (clone_any _ _ (by rw [strOf_size]; simp; omega)).mono ?_
    rintro e w2 ⟨rfl, hb2⟩
    have hr2 := hr1.kept (hb2.block q hr1.lt)
    have e0 := hr2.c0
    have f0 := hr2.f 0
    have HD := hid (hr2.set0 (s1.rest.drop n) (by simp; unfold maxLen; omega))
    have hg2 := hid ((hg1.trans (grown_below hb2)).trans (Lib.grownBy_setCell w2 q 0 (.string (strOf (s1.rest.drop n)))))
    clear hb2 hr1 d0
    go_wp2
    go_ret
    exact ⟨by rw [HF.out]; rfl, by rw [HF.out]; exact HD.out, hg2.out⟩

theorem Pd.set {w : World} {q : Nat} {s : RS} (h : Pd w q s) (b j : Nat) (v : Value) (hb : q ≠ b) : Pd (w.setCell ⟨b, j, none⟩ v) q s := h.kept (Below.heap_setCell w ⟨b, j, none⟩ v q hb)
set_option maxHeartbeats 400000 in
theorem pdone_any {w : World} {q : Nat} {s : RS} (h : Pd w q s) : Calls Tryd.prog 40 #[.pointer (some ⟨q, 0, none⟩)] w fun e w' => e = .returned (.bool (doneS s)) ∧ w = w' := by
  have c0 := h.c0
  have c1 := h.c1
  have HN : Hid (doneS s = (!s.wrong && s.rest.isEmpty)) := rfl
  clear h
  obtain ⟨l, wr⟩ := s
  simp only at *
  cases wr with
  | true =>
    go_enter Tryd.func40, Tryd.ntmps40
    go_wp2
    go_ret
    exact ⟨ret_bool (by rw [HN.out]; rfl), rfl⟩
  | false =>
    go_enter Tryd.func40, Tryd.ntmps40
    go_wp2
    go_ret
    exact ⟨ret_bool (by rw [HN.out, Lib.toList_data, strOf_data]; rfl), rfl⟩
end Go.Proofs.YtocdlaoklagdoaaDoor

/- Messages as lists: their bytes, what is right of them, what is read of bytes; that what is written is read back. -/
namespace Go.Proofs.YtocdlaoklagdoaaDoor
set_option linter.unusedSimpArgs false
set_option linter.unusedVariables false

structure Ent where
  term : Int
  index : Int
  data : List UInt8
structure Msg where
  kind : Int
  n0 : Int
  n1 : Int
  n2 : Int
  n3 : Int
  n4 : Int
  n5 : Int
  n6 : Int
  n7 : Int
  n8 : Int
  n9 : Int
  n10 : Int
  n11 : Int
  n12 : Int
  n13 : Int
  err : Int
  name : List UInt8
  text : List UInt8
  bats : List Bat
  ents : List Ent
  ints : List Int

def zeroMsg : Msg := ⟨0, 0, 0, 0, 0, 0, 0, 0, 0, 0, 0, 0, 0, 0, 0, 0, [], [], [], [], []⟩
def nums (m : Msg) : List Int := [m.n0, m.n1, m.n2, m.n3, m.n4, m.n5, m.n6, m.n7, m.n8, m.n9, m.n10, m.n11, m.n12, m.n13]

/- What is written. -/
def putN (n : Int) : List UInt8 := if n = 0 then [] else intL n
def putNs : List Int → List UInt8
  | [] => []
  | n :: r => putN n ++ putNs r
def putT (t : List UInt8) : List UInt8 := if t = [] then [] else textL t
def entL (e : Ent) : List UInt8 := intsL [e.term, e.index] ++ textL e.data
def entsL : List Ent → List UInt8
  | [] => []
  | e :: r => entL e ++ entsL r
def batsL : List Bat → List UInt8
  | [] => []
  | b :: r => (batchL b).1 ++ batsL r
def putB (l : List Bat) : List UInt8 := putN l.length ++ batsL l
def putE (l : List Ent) : List UInt8 := putN l.length ++ entsL l
def putI (l : List Int) : List UInt8 := putN l.length ++ intsL l
def tail19 (m : Msg) : List UInt8 := putI m.ints
def tail18 (m : Msg) : List UInt8 := putE m.ents ++ tail19 m
def tail17 (m : Msg) : List UInt8 := putB m.bats ++ tail18 m
def tail16 (m : Msg) : List UInt8 := putT m.text ++ tail17 m
def tail15 (m : Msg) : List UInt8 := putT m.name ++ tail16 m
def tail14 (m : Msg) : List UInt8 := putN m.err ++ tail15 m
def partsL (m : Msg) : List UInt8 := putNs (nums m) ++ tail14 m
/-- The parts from one on. -/
def fromL (k : Nat) (m : Msg) : List UInt8 :=
  if k < 14 then putNs ((nums m).drop k) ++ tail14 m
  else if k = 14 then tail14 m
  else if k = 15 then tail15 m
  else if k = 16 then tail16 m
  else if k = 17 then tail17 m
  else if k = 18 then tail18 m
  else if k = 19 then tail19 m
  else []

def there (m : Msg) : List Bool := (nums m).map (fun n => decide (n ≠ 0)) ++ [decide (m.err ≠ 0), decide (m.name ≠ []), decide (m.text ≠ []), decide (0 < m.bats.length), decide (0 < m.ents.length), decide (0 < m.ints.length)]
def bitV (i : Nat) (b : Bool) : Nat := if b then 2 ^ i else 0
def bitsOf : List Bool → Nat
  | [] => 0
  | b :: r => bitV 0 b + 2 * bitsOf r
def sumL (m : Msg) : Nat := bitsOf (there m)
def bodyM (m : Msg) : List UInt8 := intsL [m.kind, (sumL m : Int)] ++ partsL m

/- What is right. -/
def numOk (n : Int) : Bool := decide (-1 ≤ n) && decide (n ≤ 1000000000)
def numbersB (m : Msg) : Bool := (nums m).all numOk && (decide (1 ≤ m.kind) && decide (m.kind ≤ 28) && decide (0 ≤ m.err) && decide (m.err ≤ 23))
def entRight (e : Ent) : Int := if e.term < 0 ∨ 1000000000 < e.term ∨ e.index < 0 ∨ 1000000000 < e.index then 1 else if 2048 < e.data.length then 2 else 0
def firstE : List Int → Int
  | [] => 0
  | e :: r => if e = 0 then firstE r else e
def manyB (m : Msg) : Bool := decide (64 < m.bats.length) || decide (64 < m.ents.length) || decide (256 < m.ints.length)
def rightP (m : Msg) : Int :=
  if numbersB m = false then 1
  else if manyB m = true then 3
  else if 32 < m.name.length then 2
  else if firstE (m.bats.map rightL) = 0 then firstE (m.ents.map entRight)
  else firstE (m.bats.map rightL)
def rightM (m : Msg) : List UInt8 × Int :=
  if rightP m = 0 then (if 65528 < m.text.length then ([], 2) else if 65528 < (bodyM m).length then ([], 2) else (bodyM m, 0))
  else ([], rightP m)
def frameL (l : List UInt8) : List UInt8 := fourL l.length ++ (fourL (crcL l) ++ l)
def encodeL (m : Msg) : List UInt8 × Int := if (rightM m).2 = 0 then (frameL (rightM m).1, 0) else ([], (rightM m).2)

/- What is read. -/
def hasB (p : Int) (i : Nat) : Bool := decide (p / 2 ^ i % 2 = 1)
def optN (b : Bool) (s : RS) : Int × RS := if b then numS s else (0, s)
/-- k numbers behind i, each if it is told. -/
def someS (p : Int) : Nat → RS → List Int × RS
  | 0, s => ([], s)
  | k + 1, s => ((someS p k s).1 ++ [(optN (hasB p k) (someS p k s).2).1], (optN (hasB p k) (someS p k s).2).2)
def batS (s : RS) : Bat × RS := if (readBatchL s.rest).2.2 = 0 then ((readBatchL s.rest).1, ⟨s.rest.drop (readBatchL s.rest).2.1, s.wrong⟩) else (zeroBat, spoiled)
def entS (s : RS) : Ent × RS := (⟨(numS s).1, (numS (numS s).2).1, (textS 2048 (numS (numS s).2).2).1⟩, (textS 2048 (numS (numS s).2).2).2)
def manyS {α : Type} (one : RS → α × RS) : Nat → RS → List α × RS
  | 0, s => ([], s)
  | k + 1, s => ((manyS one k s).1 ++ [(one (manyS one k s).2).1], (one (manyS one k s).2).2)
def listS {α : Type} (most : Int) (one : RS → α × RS) (s : RS) : List α × RS := manyS one (countS most s).1.toNat (countS most s).2
def optT (b : Bool) (most : Int) (s : RS) : List UInt8 × RS := if b then textS most s else ([], s)
def optL {α : Type} (b : Bool) (most : Int) (one : RS → α × RS) (s : RS) : List α × RS := if b then listS most one s else ([], s)

def msgOf (k : Int) (ns : List Int) (e : Int) (n t : List UInt8) (bs : List Bat) (es : List Ent) (is : List Int) : Msg :=
  ⟨k, ns.getD 0 0, ns.getD 1 0, ns.getD 2 0, ns.getD 3 0, ns.getD 4 0, ns.getD 5 0, ns.getD 6 0, ns.getD 7 0, ns.getD 8 0, ns.getD 9 0, ns.getD 10 0, ns.getD 11 0, ns.getD 12 0, ns.getD 13 0, e, n, t, bs, es, is⟩
def partsS (s : RS) : Msg × RS :=
  let a := numS s
  let p := numS a.2
  let ns := someS p.1 14 p.2
  let e := optN (hasB p.1 14) ns.2
  let n := optT (hasB p.1 15) 32 e.2
  let t := optT (hasB p.1 16) 65528 n.2
  let b := optL (hasB p.1 17) 64 batS t.2
  let es := optL (hasB p.1 18) 64 entS b.2
  let is := optL (hasB p.1 19) 256 numS es.2
  (msgOf a.1 ns.1 e.1 n.1 t.1 b.1 es.1 is.1, is.2)
def bodyR (l : List UInt8) : Msg × Bool := ((partsS ⟨l, false⟩).1, doneS (partsS ⟨l, false⟩).2 && (decide ((rightM (partsS ⟨l, false⟩).1).2 = 0) && decide ((rightM (partsS ⟨l, false⟩).1).1 = l)))
def decodeL (l : List UInt8) : Msg × Int :=
  if l.length < 8 then (zeroMsg, 5)
  else if 65528 < fourN l then (zeroMsg, 2)
  else if (l.drop 8).length < fourN l then (zeroMsg, 5)
  else if fourN l < (l.drop 8).length then (zeroMsg, 4)
  else if crcL (l.drop 8) ≠ fourN (l.drop 4) then (zeroMsg, 6)
  else if (bodyR (l.drop 8)).2 = false then (zeroMsg, 4)
  else ((bodyR (l.drop 8)).1, 0)

/- Bits. -/
theorem bitsOf_lt : ∀ l : List Bool, bitsOf l < 2 ^ l.length
  | [] => by simp [bitsOf]
  | b :: r => by
    have := bitsOf_lt r
    simp only [bitsOf, List.length_cons, Nat.pow_succ]
    have hb : bitV 0 b ≤ 1 := by cases b <;> simp [bitV]
    omega
theorem bitsOf_snoc : ∀ (l : List Bool) (b : Bool), bitsOf (l ++ [b]) = bitsOf l + bitV l.length b
  | [], b => by simp [bitsOf]
  | c :: r, b => by
    simp only [List.cons_append, bitsOf, bitsOf_snoc r b, List.length_cons]
    have : 2 * bitV r.length b = bitV (r.length + 1) b := by cases b <;> simp [bitV, Nat.pow_succ]; omega
    omega
theorem bitsOf_bit : ∀ (l : List Bool) (i : Nat), bitsOf l / 2 ^ i % 2 = bitV 0 (l.getD i false)
  | [], i => by simp [bitsOf, bitV]
  | b :: r, 0 => by
    simp only [bitsOf, Nat.pow_zero, Nat.div_one, List.getD_cons_zero]
    have hb : bitV 0 b ≤ 1 := by cases b <;> simp [bitV]
    omega
  | b :: r, i + 1 => by
    have ih := bitsOf_bit r i
    simp only [bitsOf, List.getD_cons_succ]
    have hb : bitV 0 b ≤ 1 := by cases b <;> simp [bitV]
    rw [Nat.pow_succ, Nat.mul_comm (2 ^ i) 2, ← Nat.div_div_eq_div_mul, show (bitV 0 b + 2 * bitsOf r) / 2 = bitsOf r by omega]
    exact ih
theorem there_length (m : Msg) : (there m).length = 20 := rfl
theorem sumL_lt (m : Msg) : sumL m < 1048576 := by
  have := bitsOf_lt (there m)
  rw [there_length] at this
  exact this
theorem has_sum (m : Msg) (i : Nat) : hasB (sumL m) i = (there m).getD i false := by
  have h := bitsOf_bit (there m) i
  unfold hasB sumL
  have e : ((bitsOf (there m) : Nat) : Int) / 2 ^ i % 2 = ((bitsOf (there m) / 2 ^ i % 2 : Nat) : Int) := by simp
  rw [e, h]
  cases (there m).getD i false <;> simp [bitV]

/- Lists of parts. -/
theorem putNs_append : ∀ l m : List Int, putNs (l ++ m) = putNs l ++ putNs m
  | [], m => rfl
  | n :: r, m => by simp [putNs, putNs_append r m]
theorem putNs_snoc (l : List Int) (n : Int) : putNs (l ++ [n]) = putNs l ++ putN n := by rw [putNs_append]; simp [putNs]
theorem batsL_append : ∀ l m : List Bat, batsL (l ++ m) = batsL l ++ batsL m
  | [], m => rfl
  | n :: r, m => by simp [batsL, batsL_append r m]
theorem batsL_snoc (l : List Bat) (n : Bat) : batsL (l ++ [n]) = batsL l ++ (batchL n).1 := by rw [batsL_append]; simp [batsL]
theorem entsL_append : ∀ l m : List Ent, entsL (l ++ m) = entsL l ++ entsL m
  | [], m => rfl
  | n :: r, m => by simp [entsL, entsL_append r m]
theorem entsL_snoc (l : List Ent) (n : Ent) : entsL (l ++ [n]) = entsL l ++ entL n := by rw [entsL_append]; simp [entsL]
theorem putN_length (n : Int) : (putN n).length ≤ 10 := by
  unfold putN
  split
  · simp
  · exact (intL_length n).2
theorem putNs_length : ∀ l : List Int, (putNs l).length ≤ l.length * 10
  | [] => by simp [putNs]
  | n :: r => by
    have := putNs_length r
    have := putN_length n
    simp only [putNs, List.length_append, List.length_cons]
    omega
theorem batchL_length (b : Bat) : (batchL b).1.length ≤ 4096 := by
  unfold batchL
  split
  · rename_i h
    have := (rightL_ok h).2.2.2.2.2.2
    simp only [List.length_append, fourL, List.length_cons, List.length_nil]
    omega
  · simp
theorem batsL_length : ∀ l : List Bat, (batsL l).length ≤ l.length * 4096
  | [] => by simp [batsL]
  | n :: r => by
    have := batsL_length r
    have := batchL_length n
    simp only [batsL, List.length_append, List.length_cons]
    omega
theorem entL_length (e : Ent) (h : e.data.length ≤ 2048) : (entL e).length ≤ 2078 := by
  have h1 := intsL_length [e.term, e.index]
  have h2 := textL_length e.data
  simp only [List.length_cons, List.length_nil] at h1
  unfold entL
  rw [List.length_append]
  omega
theorem entsL_length : ∀ l : List Ent, (∀ e ∈ l, e.data.length ≤ 2048) → (entsL l).length ≤ l.length * 2078
  | [], _ => by simp [entsL]
  | n :: r, h => by
    have h1 := entsL_length r (fun e he => h e (by simp [he]))
    have h2 := entL_length n (h n (by simp))
    simp only [entsL, List.length_append, List.length_cons]
    omega

/- From the first part that is there on, all is written. -/
theorem first_parts (m : Msg) (k : Nat) (h : ∀ i, i < k → (there m).getD i false = false) (hk : k ≤ 20) : fromL k m = partsL m ∨ (k = 20 ∧ partsL m = []) := by
  have g : ∀ i, i < k → i < 14 → (nums m).getD i 0 = 0 := fun i hi h14 => by
    have h1 := h i hi
    match i, h14 with
    | 0, _ => simpa [there, nums] using h1
    | 1, _ => simpa [there, nums] using h1
    | 2, _ => simpa [there, nums] using h1
    | 3, _ => simpa [there, nums] using h1
    | 4, _ => simpa [there, nums] using h1
    | 5, _ => simpa [there, nums] using h1
    | 6, _ => simpa [there, nums] using h1
    | 7, _ => simpa [there, nums] using h1
    | 8, _ => simpa [there, nums] using h1
    | 9, _ => simpa [there, nums] using h1
    | 10, _ => simpa [there, nums] using h1
    | 11, _ => simpa [there, nums] using h1
    | 12, _ => simpa [there, nums] using h1
    | 13, _ => simpa [there, nums] using h1
  have hl : (nums m).length = 14 := rfl
  have z : ∀ (l : List Int) (j : Nat), (∀ i, i < j → l.getD i 0 = 0) → putNs (l.drop j) = putNs l := fun l => by
    induction l with
    | nil => intro j _; simp
    | cons a r ih =>
      intro j hj
      cases j with
      | zero => rfl
      | succ j =>
        have h0 : a = 0 := by simpa using hj 0 (by omega)
        have hr := ih j (fun i hi => by simpa using hj (i + 1) (by omega))
        simp only [List.drop_succ_cons, putNs, hr, h0, putN, if_true, List.nil_append]
  by_cases h14 : k < 14
  · left
    unfold fromL partsL
    rw [if_pos h14, z (nums m) k (fun i hi => g i hi (by omega))]
  · have e0 : putNs (nums m) = [] := by
      have := z (nums m) 14 (fun i hi => g i (by omega) hi)
      rw [List.drop_of_length_le (by rw [hl]; omega)] at this
      exact this.symm
    have e14 : 14 < k → putN m.err = [] := fun hk => by
      have : m.err = 0 := by simpa [there, nums] using h 14 hk
      simp [putN, this]
    have e15 : 15 < k → putT m.name = [] := fun hk => by
      have : m.name = [] := by simpa [there, nums] using h 15 hk
      simp [putT, this]
    have e16 : 16 < k → putT m.text = [] := fun hk => by
      have : m.text = [] := by simpa [there, nums] using h 16 hk
      simp [putT, this]
    have e17 : 17 < k → putB m.bats = [] := fun hk => by
      have : m.bats = [] := by simpa [there, nums] using h 17 hk
      simp [putB, this, putN, batsL]
    have e18 : 18 < k → putE m.ents = [] := fun hk => by
      have : m.ents = [] := by simpa [there, nums] using h 18 hk
      simp [putE, this, putN, entsL]
    have e19 : 19 < k → putI m.ints = [] := fun hk => by
      have : m.ints = [] := by simpa [there, nums] using h 19 hk
      simp [putI, this, putN, intsL]
    have hc : k = 14 ∨ k = 15 ∨ k = 16 ∨ k = 17 ∨ k = 18 ∨ k = 19 ∨ k = 20 := by omega
    rcases hc with rfl | rfl | rfl | rfl | rfl | rfl | rfl
    · left; simp [fromL, partsL, e0]
    · left; simp [fromL, partsL, e0, tail14, e14]
    · left; simp [fromL, partsL, e0, tail14, tail15, e14, e15]
    · left; simp [fromL, partsL, e0, tail14, tail15, tail16, e14, e15, e16]
    · left; simp [fromL, partsL, e0, tail14, tail15, tail16, tail17, e14, e15, e16, e17]
    · left; simp [fromL, partsL, e0, tail14, tail15, tail16, tail17, tail18, e14, e15, e16, e17, e18]
    · right; exact ⟨rfl, by simp [partsL, e0, tail14, tail15, tail16, tail17, tail18, tail19, e14, e15, e16, e17, e18, e19]⟩
end Go.Proofs.YtocdlaoklagdoaaDoor

/- What pieces and rpc write: ints, numbers, texts, behind a row of bytes. -/
namespace Go.Proofs.YtocdlaoklagdoaaDoor
open Go.RowKit Go.Maps
set_option linter.unusedSimpArgs false
set_option linter.unusedVariables false
set_option maxRecDepth 100000

theorem Grow.under {w w1 : World} (v : Value) (hb : Below w.heap.size w w1) : Grow w w1 v v := ⟨⟨hb.os, hb.tape, hb.output, hb.size, fun k hk _ => hb.block k hk⟩, fun q h => .inl h⟩

/-- A string's bytes behind any row. -/
theorem append_str {w : World} {B ty : Nat} {v : Value} {l : List UInt8} (h : Row w B v l) (t : List UInt8) (h63 : l.length + t.length ≤ 140737488355328) (hbase : B ≤ w.heap.size) :
    ∃ v' w', (Builtin.append_ #[43, 9] ty #[v, .string (strOf t)]).run Tryd.prog w = .ok v' w' ∧ Row w' B v' (l ++ t) ∧ Below B w w' ∧ Grow w w' v v' := by
  obtain ⟨i0, hi0, hz0, hz1, hz2⟩ := info5
  have hs := strOf_size t
  rcases h.2 with ⟨rfl, hn⟩ | ⟨g, cap, cur, rfl, hB, hg, hnc, hcm, hcs, htake⟩
  · have hl0 : l = [] := List.eq_nil_of_length_eq_zero hn
    subst hl0
    obtain ⟨v', w', hr, h1, h2, h3⟩ := Lib.run_append_own_string (P := Tryd.prog) w w.heap.size 43 9 ty 5 i0 Tryd.underlying43 Tryd.underlying9 hi0 hz0 hz1 hz2 (.slice none 0 0) 0 [] (World.ownsRow_nil w _ 5 1) (strOf t) (by unfold maxLen; omega) (by omega) (Nat.le_refl _)
    rw [strCells_eq, hs] at h1
    have h1' : Row w' w.heap.size v' ([] ++ t) := Row.of (l := []) (m := t) (by simpa [u8c] using h1)
    exact ⟨v', w', hr, h1'.base hbase, (Below.refl _ _).grown h2 hbase (fun k hk => by cases hk), h2, fun q hq => .inr (h1'.own q hq)⟩
  · obtain ⟨v', w', hr, h1, h2, _⟩ := Lib.run_append_own_string (P := Tryd.prog) w B 43 9 ty 5 i0 Tryd.underlying43 Tryd.underlying9 hi0 hz0 hz1 hz2 _ l.length (u8c l) h (strOf t) (by unfold maxLen; omega) (by omega) hbase
    have hat : ∀ q, v'.ownBlock = some q → (Value.slice (some ⟨g, 0, none⟩) l.length cap).ownBlock = some q ∨ w.heap.size ≤ q := by
      by_cases hroom : l.length + (strOf t).size ≤ cap
      · have hr2 := Lib.run_append_room_string (P := Tryd.prog) w 43 9 ty 5 i0 Tryd.underlying43 Tryd.underlying9 hi0 hz1 g l.length cap cur hg (strOf t) hroom (by omega)
        rw [hr] at hr2
        simp only [Result.ok.injEq] at hr2
        rw [hr2.1]
        exact fun q hq => .inl hq
      · have holds : ∀ j u, (u8c l)[j]? = some u → w.cell? ((⟨g, 0, none⟩ : Addr).add j) = some u := World.ownsRow.cells h (g := g) rfl
        have hr2 := Lib.run_append_grow_string (P := Tryd.prog) w 43 9 ty 5 i0 (.int .u8 0) Tryd.underlying43 Tryd.underlying9 hi0 hz0 ⟨g, 0, none⟩ l.length cap (u8c l) (by rw [hz1]; simp [u8c]) holds (strOf t) (by omega) (by omega) (by rw [hz2]; exact growslice_fits (by omega) (by omega))
        rw [hr] at hr2
        simp only [Result.ok.injEq] at hr2
        rw [hr2.1]
        intro q hq
        cases hq
        exact .inr (Nat.le_refl _)
    rw [strCells_eq, hs] at h1
    exact ⟨v', w', hr, Row.of h1, (Below.refl _ _).grown h2 hbase h.own, h2, hat⟩

theorem wpList_append_str {w : World} {ops : Array Oper} {rest : List Oper} {o : Oper} {a : Act} {Q : Exit → Act → World → Prop} (hgd : o.guard = none) (sl x : Operand)
    (ho : o.op = .call { callee := .builtin .append, args := #[sl, x], argTypes := #[43, 9] }) (B : Nat)
    (v : Value) (l : List UInt8) (hs : a.eval sl = v) (hrow : Row w B v l) (t : List UInt8) (hx : a.eval x = .string (strOf t))
    (h63 : l.length + t.length ≤ 140737488355328) (hbase : B ≤ w.heap.size)
    (h : ∀ v' w', Row w' B v' (l ++ t) → Below B w w' → Grow w w' v v' → wpList Tryd.prog ops Q rest (a.put o.dst v') w') : wpList Tryd.prog ops Q (o :: rest) a w := by
  refine wpList_plain hgd fun K hK => ?_
  obtain ⟨v', w', hr, h2, h3, h4⟩ := append_str (ty := o.type) hrow t h63 hbase
  unfold Oper.wp execOp
  simp only [ho, resolve, invoke, builtin, Sem.run_bind, Sem.run_pure, Result.andThen_ok, List.map_toArray, List.map_cons, List.map_nil, hs, hx, hr]
  exact hK _ _ (h v' w' h2 h3 h4)

/-- Ints in a row that is not the bytes' own. -/
def IntsIn (w : World) (v : Value) (a : Option Addr) (ns : List Int) : Prop := ns = [] ∨ ∃ b off, a = some ⟨b, off, none⟩ ∧ b < w.heap.size ∧ v.ownBlock ≠ some b ∧ ∀ i (h : i < ns.length), w.cell? ⟨b, off + i, none⟩ = some (.int .i64 ns[i])
theorem IntsIn.grow {w w1 : World} {v v1 : Value} {a : Option Addr} {ns : List Int} (h : IntsIn w v a ns) (g : Grow w w1 v v1) : IntsIn w1 v1 a ns := by
  rcases h with h | ⟨b, off, e, hl, hv, hc⟩
  · exact .inl h
  · obtain ⟨g1, g2, g3⟩ := g.block hl hv
    exact .inr ⟨b, off, e, g3, g2, fun i hi => (World.cell?_of_block (a := ⟨b, off + i, none⟩) g1).trans (hc i hi)⟩
theorem IntsIn.at {w : World} {v : Value} {a : Option Addr} {ns : List Int} (h : IntsIn w v a ns) (k : Nat) (hk : k < ns.length) : ∃ b off, a = some ⟨b, off, none⟩ ∧ w.cell? ⟨b, off + k, none⟩ = some (.int .i64 ns[k]) := by
  rcases h with h | ⟨b, off, e, hl, hv, hc⟩
  · subst h; simp at hk
  · exact ⟨b, off, e, hc k hk⟩
theorem Row.fresh {w : World} {B : Nat} {v : Value} {l : List UInt8} (h : Row w B v l) : v.ownBlock ≠ some w.heap.size := fun e => by
  have := (World.ownsRow.lt h _ e).2
  omega
theorem ints_one {w : World} {B : Nat} {v : Value} {l : List UInt8} (h : Row w B v l) (n : Int) : IntsIn (w.alloc (.cells #[.int .i64 n] 3)) v (some ⟨w.heap.size, 0, none⟩) [n] :=
  .inr ⟨w.heap.size, 0, rfl, by simp, h.fresh, fun i hi => by
    have h0 : i = 0 := by simp at hi; omega
    subst h0
    exact cell_new rfl rfl⟩
theorem ints_two {w : World} {B : Nat} {v : Value} {l : List UInt8} (h : Row w B v l) (n m : Int) : IntsIn (w.alloc (.cells #[.int .i64 n, .int .i64 m] 3)) v (some ⟨w.heap.size, 0, none⟩) [n, m] :=
  .inr ⟨w.heap.size, 0, rfl, by simp, h.fresh, fun i hi => by
    have h0 : i = 0 ∨ i = 1 := by simp at hi; omega
    rcases h0 with rfl | rfl
    · exact cell_new rfl rfl
    · exact cell_new rfl rfl⟩

set_option maxHeartbeats 800000 in
theorem appInts_any {w : World} {B : Nat} {v : Value} {l : List UInt8} (h : Row w B v l) (hB : B ≤ w.heap.size) (a : Option Addr) (cap : Nat) (ns : List Int) (ha : IntsIn w v a ns) (hi : ∀ n ∈ ns, I64 n) (hl : l.length + ns.length * 10 ≤ 1000000000000) :
    Calls Tryd.prog 48 #[v, .slice a ns.length cap] w fun e w' => ∃ v', e = .returned v' ∧ Row w' B v' (l ++ intsL ns) ∧ Below B w w' ∧ Grow w w' v v' := by
  have HA := hid ha
  have HI := hid hi
  have H0 : Hid (Row w B v (l ++ intsL (ns.take 0)) ∧ Below B w w ∧ Grow w w v v) := ⟨by simpa [intsL] using h, .refl _ _, .refl _ _⟩
  clear h ha hi
  go_enter Tryd.func48, Tryd.ntmps48
  go_wp2
  go_loopg [0, 9] ns.length (fun kx s0 s9 wr => ∃ (k : Nat) (sv : Value), k ≤ ns.length ∧ ns.length - k ≤ kx ∧ s9 = .int .i64 k ∧ sv = s0 ∧ Hid (Row wr B sv (l ++ intsL (ns.take k)) ∧ Below B w wr ∧ Grow w wr v sv))
  case atStart => exact ⟨0, _, by omega, by omega, rfl, rfl, H0⟩
  case round =>
    obtain ⟨k, sv, hk, hkx, rfl, rfl, HD⟩ := hrel
    clear H0
    by_cases hlt : k < ns.length
    · have hlt' : (k : Int) < (ns.length : Int) := by omega
      obtain ⟨b, off, rfl, hc⟩ := (HA.out.grow HD.out.2.2).at k hlt
      have hlen : (l ++ intsL (ns.take k)).length ≤ 1000000000000 := by
        have := intsL_length (ns.take k)
        have h2 : (ns.take k).length ≤ ns.length := by simp; omega
        simp only [List.length_append]; omega
      have HC := hid (int_any ns[k] wr (HI.out _ (List.getElem_mem hlt)))
      have HT : Hid (l ++ intsL (ns.take (k + 1)) = l ++ intsL (ns.take k) ++ intL ns[k]) := by show _ = _; rw [ints_take ns k hlt, List.append_assoc]
      have hZ := (intL_length ns[k]).2
      generalize ns[k] = N at *
      have hBs := HD.out.2.1.size
      generalize l ++ intsL (ns.take k) = L at *
      have HR := hid HD.out
      clear HD
      go_wp2_with (first | (go_at_call 70; refine HC.out.mono ?_; rintro e w1 ⟨rfl, hb1⟩; have hs1 := hb1.size; have hrow1 := HR.out.1.under (B' := 0) hb1) | (at_builtin; refine wpList_append_str rfl _ _ rfl B _ L rfl hrow1 (intL N) rfl (by omega) (by omega) ?_; intro v2 w2 hrow2 hb2 hg2))
      go_roundg (ns.length - (k + 1))
      case measure => omega
      case rel =>
        refine ⟨k + 1, v2, by omega, Nat.le_refl _, by go_num, rfl, ?_, ?_, ?_⟩
        · rw [HT.out]; exact hrow2
        · exact HR.out.2.1.trans ((hb1.mono (by omega)).trans hb2)
        · exact HR.out.2.2.trans ((Grow.under sv hb1).trans hg2)
    · have hlt' : ¬ (k : Int) < (ns.length : Int) := by omega
      have he : ns.take k = ns := List.take_of_length_le (by omega)
      have HE := hid HD.out
      rw [he] at HE
      clear he
      go_wp2
      go_ret
      exact ⟨_, rfl, HE.out⟩

theorem one48 {w : World} {B : Nat} {v : Value} {l : List UInt8} (h : Row w B v l) (hB : B ≤ w.heap.size) (n : Int) (hn : I64 n) (hl : l.length ≤ 100000000000) :
    Calls Tryd.prog 48 #[v, .slice (some ⟨w.heap.size, 0, none⟩) 1 1] (w.alloc (.cells #[.int .i64 n] 3)) fun e w' => ∃ v', e = .returned v' ∧ Row w' B v' (l ++ intL n) ∧ Below B w w' ∧ Grow w w' v v' := by
  have H := appInts_any (h.alloc (.cells #[.int .i64 n] 3)) (by simp; omega) (some ⟨w.heap.size, 0, none⟩) 1 [n] (ints_one h n) (fun m hm => by simp at hm; subst hm; exact hn) (by simp; omega)
  refine H.mono ?_
  rintro e w1 ⟨v', rfl, h1, h2, h3⟩
  refine ⟨v', rfl, by simpa [intsL] using h1, ((Below.refl _ _).alloc hB _).trans h2, ((Grow.refl w v).alloc _).trans h3⟩
theorem two48 {w : World} {B : Nat} {v : Value} {l : List UInt8} (h : Row w B v l) (hB : B ≤ w.heap.size) (n m : Int) (hn : I64 n) (hm : I64 m) (hl : l.length ≤ 100000000000) :
    Calls Tryd.prog 48 #[v, .slice (some ⟨w.heap.size, 0, none⟩) 2 2] (w.alloc (.cells #[.int .i64 n, .int .i64 m] 3)) fun e w' => ∃ v', e = .returned v' ∧ Row w' B v' (l ++ intsL [n, m]) ∧ Below B w w' ∧ Grow w w' v v' := by
  have H := appInts_any (h.alloc (.cells #[.int .i64 n, .int .i64 m] 3)) (by simp; omega) (some ⟨w.heap.size, 0, none⟩) 2 [n, m] (ints_two h n m) (fun k hk => by simp at hk; rcases hk with rfl | rfl <;> assumption) (by simp; omega)
  refine H.mono ?_
  rintro e w1 ⟨v', rfl, h1, h2, h3⟩
  exact ⟨v', rfl, h1, ((Below.refl _ _).alloc hB _).trans h2, ((Grow.refl w v).alloc _).trans h3⟩

set_option maxHeartbeats 400000 in
theorem pText_any {w : World} {B : Nat} {v : Value} {l : List UInt8} (h : Row w B v l) (hB : B ≤ w.heap.size) (t : List UInt8) (hl : l.length + t.length ≤ 10000000000) :
    Calls Tryd.prog 87 #[v, .string (strOf t)] w fun e w' => ∃ v', e = .returned v' ∧ Row w' B v' (l ++ textL t) ∧ Below B w w' ∧ Grow w w' v v' := by
  have hts := strOf_size t
  have H48 := hid (one48 h hB (t.length : Int) ⟨by omega, by omega⟩ (by omega))
  have hL := (intL_length (t.length : Int)).2
  have hL2 : (l ++ intL (t.length : Int)).length = l.length + (intL (t.length : Int)).length := by simp
  have HT : Hid (l ++ textL t = l ++ intL (t.length : Int) ++ t) := by show _ = _; unfold textL; rw [List.append_assoc]
  clear h
  generalize l ++ intL (t.length : Int) = L at *
  go_enter Tryd.func87, Tryd.ntmps87
  go_wp2_with (first | (go_at_call 48; refine H48.out.mono ?_; rintro e w1 ⟨v1, rfl, hrow1, hb1, hg1⟩) | (at_builtin; refine wpList_append_str rfl _ _ rfl B _ L rfl hrow1 t rfl (by omega) (by have := hb1.size; omega) ?_; intro v2 w2 hrow2 hb2 hg2))
  go_ret
  exact ⟨_, rfl, by rw [HT.out]; exact hrow2, hb1.trans hb2, hg1.trans hg2⟩

theorem str_empty (t : List UInt8) : (strOf t).toList.isEmpty = decide (t = []) := by
  rw [Lib.toList_data, strOf_data]
  cases t <;> simp
theorem nums_take (ns : List Int) (k : Nat) (h : k < ns.length) : putNs (ns.take (k + 1)) = putNs (ns.take k) ++ putN ns[k] := by
  rw [List.take_succ_eq_append_getElem h, putNs_snoc]

set_option maxHeartbeats 800000 in
theorem appNums_any {w : World} {B : Nat} {v : Value} {l : List UInt8} (h : Row w B v l) (hB : B ≤ w.heap.size) (a : Option Addr) (cap : Nat) (ns : List Int) (ha : IntsIn w v a ns) (hi : ∀ n ∈ ns, I64 n) (hl : l.length + ns.length * 10 ≤ 10000000000) :
    Calls Tryd.prog 71 #[v, .slice a ns.length cap] w fun e w' => ∃ v', e = .returned v' ∧ Row w' B v' (l ++ putNs ns) ∧ Below B w w' ∧ Grow w w' v v' := by
  have HA := hid ha
  have HI := hid hi
  have H0 : Hid (Row w B v (l ++ putNs (ns.take 0)) ∧ Below B w w ∧ Grow w w v v) := ⟨by simpa [putNs] using h, .refl _ _, .refl _ _⟩
  clear h ha hi
  go_enter Tryd.func71, Tryd.ntmps71
  go_wp2
  go_loopg [0, 9] ns.length (fun kx s0 s9 wr => ∃ (k : Nat) (sv : Value), k ≤ ns.length ∧ ns.length - k ≤ kx ∧ s9 = .int .i64 k ∧ sv = s0 ∧ Hid (Row wr B sv (l ++ putNs (ns.take k)) ∧ Below B w wr ∧ Grow w wr v sv))
  case atStart => exact ⟨0, _, by omega, by omega, rfl, rfl, H0⟩
  case round =>
    obtain ⟨k, sv, hk, hkx, rfl, rfl, HD⟩ := hrel
    clear H0
    by_cases hlt : k < ns.length
    · have hlt' : (k : Int) < (ns.length : Int) := by omega
      obtain ⟨b, off, rfl, hc⟩ := (HA.out.grow HD.out.2.2).at k hlt
      have hlen : (l ++ putNs (ns.take k)).length ≤ 10000000000 := by
        have := putNs_length (ns.take k)
        have h2 : (ns.take k).length ≤ ns.length := by simp; omega
        simp only [List.length_append]; omega
      have hBs := HD.out.2.1.size
      have HC := hid (one48 HD.out.1 (by omega) ns[k] (HI.out _ (List.getElem_mem hlt)) (by omega))
      have HT : Hid (l ++ putNs (ns.take (k + 1)) = l ++ putNs (ns.take k) ++ putN ns[k]) := by show _ = _; rw [nums_take ns k hlt, List.append_assoc]
      generalize ns[k] = N at *
      generalize l ++ putNs (ns.take k) = L at *
      have HR := hid HD.out
      clear HD
      by_cases hN : N = 0
      · have hN' : (N != 0) = false := by simp [hN]
        have HE : Hid (putN N = []) := by show _ = _; simp [putN, hN]
        clear hN HC
        go_wp2
        go_roundg (ns.length - (k + 1))
        case measure => omega
        case rel => exact ⟨k + 1, sv, by omega, Nat.le_refl _, by go_num, rfl, by rw [HT.out, HE.out, List.append_nil]; exact HR.out.1, HR.out.2.1, HR.out.2.2⟩
      · have hN' : (N != 0) = true := by simp [hN]
        have HE : Hid (putN N = intL N) := by show _ = _; simp [putN, hN]
        clear hN
        go_wp2_with (go_at_call 48; refine HC.out.mono ?_; rintro e w1 ⟨v1, rfl, hrow1, hb1, hg1⟩)
        go_roundg (ns.length - (k + 1))
        case measure => omega
        case rel => exact ⟨k + 1, v1, by omega, Nat.le_refl _, by go_num, rfl, by rw [HT.out, HE.out]; exact hrow1, HR.out.2.1.trans hb1, HR.out.2.2.trans hg1⟩
    · have hlt' : ¬ (k : Int) < (ns.length : Int) := by omega
      have he : ns.take k = ns := List.take_of_length_le (by omega)
      have HE := hid HD.out
      rw [he] at HE
      clear he
      go_wp2
      go_ret
      exact ⟨_, rfl, HE.out⟩

theorem one71 {w : World} {B : Nat} {v : Value} {l : List UInt8} (h : Row w B v l) (hB : B ≤ w.heap.size) (n : Int) (hn : I64 n) (hl : l.length ≤ 1000000000) :
    Calls Tryd.prog 71 #[v, .slice (some ⟨w.heap.size, 0, none⟩) 1 1] (w.alloc (.cells #[.int .i64 n] 3)) fun e w' => ∃ v', e = .returned v' ∧ Row w' B v' (l ++ putN n) ∧ Below B w w' ∧ Grow w w' v v' := by
  have H := appNums_any (h.alloc (.cells #[.int .i64 n] 3)) (by simp; omega) (some ⟨w.heap.size, 0, none⟩) 1 [n] (ints_one h n) (fun m hm => by simp at hm; subst hm; exact hn) (by simp; omega)
  refine H.mono ?_
  rintro e w1 ⟨v', rfl, h1, h2, h3⟩
  refine ⟨v', rfl, by simpa [putNs] using h1, ((Below.refl _ _).alloc hB _).trans h2, ((Grow.refl w v).alloc _).trans h3⟩

set_option maxHeartbeats 400000 in
theorem appT_any {w : World} {B : Nat} {v : Value} {l : List UInt8} (h : Row w B v l) (hB : B ≤ w.heap.size) (t : List UInt8) (hl : l.length + t.length ≤ 1000000000) :
    Calls Tryd.prog 72 #[v, .string (strOf t)] w fun e w' => ∃ v', e = .returned v' ∧ Row w' B v' (l ++ putT t) ∧ Below B w w' ∧ Grow w w' v v' := by
  have H87 := hid (pText_any h hB t (by omega))
  have HR := hid h
  clear h
  by_cases ht : t = []
  · subst ht
    have e0 : strOf [] = ⟨#[]⟩ := rfl
    rw [e0]
    clear H87
    go_enter Tryd.func72, Tryd.ntmps72
    go_wp2
    go_ret
    exact ⟨_, rfl, by simpa [putT] using HR.out, .refl _ _, .refl _ _⟩
  · have HE : Hid (putT t = textL t) := by show _ = _; simp [putT, ht]
    have he : (strOf t).toList.isEmpty = false := by rw [str_empty]; simp [ht]
    clear ht
    go_enter Tryd.func72, Tryd.ntmps72
    go_wp2_with (go_at_call 87; refine H87.out.mono ?_; rintro e w1 ⟨v1, rfl, hrow1, hb1, hg1⟩)
    go_ret
    exact ⟨_, rfl, by rw [HE.out]; exact hrow1, hb1, hg1⟩
end Go.Proofs.YtocdlaoklagdoaaDoor

/- Messages in memory; what writes their lists. -/
namespace Go.Proofs.YtocdlaoklagdoaaDoor
open Go.RowKit Go.Maps
set_option linter.unusedSimpArgs false
set_option linter.unusedVariables false
set_option maxRecDepth 100000

def Ent.ok (e : Ent) : Prop := I64 e.term ∧ I64 e.index ∧ e.data.length ≤ maxLen
def EntCells (w : World) (b o : Nat) (e : Ent) : Prop := w.cell? ⟨b, o, none⟩ = some (.int .i64 e.term) ∧ w.cell? ⟨b, o + 1, none⟩ = some (.int .i64 e.index) ∧ w.cell? ⟨b, o + 2, none⟩ = some (.string (strOf e.data))
def EntsAt (w : World) (a : Option Addr) (es : List Ent) : Prop := es = [] ∨ ∃ b off, a = some ⟨b, off, none⟩ ∧ b < w.heap.size ∧ ∀ i (h : i < es.length), EntCells w b (off + i * 3) es[i]
def BatCells (w : World) (b o : Nat) (x : Bat) (a : Option Addr) (c : Nat) : Prop :=
  w.cell? ⟨b, o, none⟩ = some (.int .i64 x.base) ∧ w.cell? ⟨b, o + 1, none⟩ = some (.int .i64 x.epoch) ∧ w.cell? ⟨b, o + 2, none⟩ = some (.int .i64 x.pid) ∧ w.cell? ⟨b, o + 3, none⟩ = some (.int .i64 x.pidEpoch) ∧ w.cell? ⟨b, o + 4, none⟩ = some (.int .i64 x.seq) ∧ w.cell? ⟨b, o + 5, none⟩ = some (.slice a x.recs.length c)
def BatsAt (w : World) (a : Option Addr) (bs : List Bat) : Prop := bs = [] ∨ ∃ b off, a = some ⟨b, off, none⟩ ∧ b < w.heap.size ∧ ∀ i (h : i < bs.length), ∃ ra rc, BatCells w b (off + i * 6) bs[i] ra rc ∧ Recs w (.slice ra bs[i].recs.length rc) bs[i].recs

theorem EntCells.under {w w' : World} {b o : Nat} {e : Ent} (h : EntCells w b o e) (hb : w'.heap[b]? = w.heap[b]?) : EntCells w' b o e := by
  obtain ⟨h0, h1, h2⟩ := h
  exact ⟨(World.cell?_of_block (a := ⟨b, o, none⟩) hb).trans h0, (World.cell?_of_block (a := ⟨b, o + 1, none⟩) hb).trans h1, (World.cell?_of_block (a := ⟨b, o + 2, none⟩) hb).trans h2⟩
theorem BatCells.under {w w' : World} {b o : Nat} {x : Bat} {a : Option Addr} {c : Nat} (h : BatCells w b o x a c) (hb : w'.heap[b]? = w.heap[b]?) : BatCells w' b o x a c := by
  obtain ⟨h0, h1, h2, h3, h4, h5⟩ := h
  exact ⟨(World.cell?_of_block (a := ⟨b, o, none⟩) hb).trans h0, (World.cell?_of_block (a := ⟨b, o + 1, none⟩) hb).trans h1, (World.cell?_of_block (a := ⟨b, o + 2, none⟩) hb).trans h2, (World.cell?_of_block (a := ⟨b, o + 3, none⟩) hb).trans h3, (World.cell?_of_block (a := ⟨b, o + 4, none⟩) hb).trans h4, (World.cell?_of_block (a := ⟨b, o + 5, none⟩) hb).trans h5⟩
theorem EntsAt.under {w w' : World} {a : Option Addr} {es : List Ent} (h : EntsAt w a es) (hb : Below w.heap.size w w') : EntsAt w' a es := by
  rcases h with h | ⟨b, off, e, hl, hc⟩
  · exact .inl h
  · exact .inr ⟨b, off, e, Nat.lt_of_lt_of_le hl hb.size, fun i hi => (hc i hi).under (hb.block b hl)⟩
theorem BatsAt.under {w w' : World} {a : Option Addr} {bs : List Bat} (h : BatsAt w a bs) (hb : Below w.heap.size w w') : BatsAt w' a bs := by
  rcases h with h | ⟨b, off, e, hl, hc⟩
  · exact .inl h
  · refine .inr ⟨b, off, e, Nat.lt_of_lt_of_le hl hb.size, fun i hi => ?_⟩
    obtain ⟨ra, rc, h1, h2⟩ := hc i hi
    exact ⟨ra, rc, h1.under (hb.block b hl), h2.under hb⟩
theorem EntsAt.at {w : World} {a : Option Addr} {es : List Ent} (h : EntsAt w a es) (k : Nat) (hk : k < es.length) : ∃ b off, a = some ⟨b, off, none⟩ ∧ EntCells w b (off + k * 3) es[k] := by
  rcases h with h | ⟨b, off, e, hl, hc⟩
  · subst h; simp at hk
  · exact ⟨b, off, e, hc k hk⟩
theorem BatsAt.at {w : World} {a : Option Addr} {bs : List Bat} (h : BatsAt w a bs) (k : Nat) (hk : k < bs.length) : ∃ b off ra rc, a = some ⟨b, off, none⟩ ∧ BatCells w b (off + k * 6) bs[k] ra rc ∧ Recs w (.slice ra bs[k].recs.length rc) bs[k].recs := by
  rcases h with h | ⟨b, off, e, hl, hc⟩
  · subst h; simp at hk
  · obtain ⟨ra, rc, h1, h2⟩ := hc k hk
    exact ⟨b, off, ra, rc, e, h1, h2⟩
theorem IntsAt.up {w w' : World} {a : Option Addr} {ns : List Int} (h : IntsAt w a w.heap.size ns) (hb : Below w.heap.size w w') : IntsAt w' a w'.heap.size ns := by
  rcases h with h | ⟨b, off, e, hl, hc⟩
  · exact .inl h
  · exact .inr ⟨b, off, e, Nat.lt_of_lt_of_le hl hb.size, fun i hi => (World.cell?_of_block (a := ⟨b, off + i, none⟩) (hb.block b hl)).trans (hc i hi)⟩
theorem IntsAt.in {w : World} {a : Option Addr} {B : Nat} {ns : List Int} {v : Value} {l : List UInt8} (h : IntsAt w a B ns) (hB : B ≤ w.heap.size) (hr : Row w B v l) : IntsIn w v a ns := by
  rcases h with h | ⟨b, off, e, hl, hc⟩
  · exact .inl h
  · exact .inr ⟨b, off, e, Nat.lt_of_lt_of_le hl hB, fun e => by have := hr.own b e; omega, hc⟩

/-- A message's parts are what values of their types are. -/
structure Msg.ok (m : Msg) : Prop where
  kind : I64 m.kind
  nums : ∀ n ∈ nums m, I64 n
  err : I64 m.err
  name : m.name.length ≤ maxLen
  text : m.text.length ≤ maxLen
  bats : ∀ b ∈ m.bats, b.ints
  batsLen : m.bats.length ≤ maxLen
  ents : ∀ e ∈ m.ents, e.ok
  entsLen : m.ents.length ≤ maxLen
  ints : ∀ n ∈ m.ints, I64 n
  intsLen : m.ints.length ≤ maxLen
/-- Where a message's lists lie. -/
structure Here (w : World) (m : Msg) (ba ea ia : Option Addr) : Prop where
  bats : BatsAt w ba m.bats
  ents : EntsAt w ea m.ents
  ints : IntsAt w ia w.heap.size m.ints
theorem Here.under {w w' : World} {m : Msg} {ba ea ia : Option Addr} (h : Here w m ba ea ia) (hb : Below w.heap.size w w') : Here w' m ba ea ia := ⟨h.bats.under hb, h.ents.under hb, h.ints.up hb⟩

set_option maxHeartbeats 800000 in
theorem appIntsL_any {W0 w : World} {v : Value} {l : List UInt8} (hW : Below W0.heap.size W0 w) (h : Row w W0.heap.size v l) (a : Option Addr) (cap : Nat) (ns : List Int) (ha : IntsAt W0 a W0.heap.size ns) (hi : ∀ n ∈ ns, I64 n) (hn : ns.length ≤ 256) (hl : l.length ≤ 100000000) :
    Calls Tryd.prog 75 #[v, .slice a ns.length cap] w fun e w' => ∃ v', e = .returned v' ∧ Row w' W0.heap.size v' (l ++ putI ns) ∧ Below W0.heap.size W0 w' ∧ Grow w w' v v' := by
  have hs := hW.size
  have H71 := hid (one71 h hs (ns.length : Int) ⟨by omega, by omega⟩ (by omega))
  have hz := putN_length (ns.length : Int)
  have H48 : Hid (∀ v1 w1, Row w1 W0.heap.size v1 (l ++ putN (ns.length : Int)) → Below W0.heap.size w w1 → Calls Tryd.prog 48 #[v1, .slice a ns.length cap] w1 fun e w' => ∃ v', e = .returned v' ∧ Row w' W0.heap.size v' (l ++ putN (ns.length : Int) ++ intsL ns) ∧ Below W0.heap.size w1 w' ∧ Grow w1 w' v1 v') := fun v1 w1 h1 h2 => by
    have h3 := hW.trans h2
    exact appInts_any h1 h3.size a cap ns ((ha.under h3).in h3.size h1) hi (by simp only [List.length_append]; omega)
  have HT : Hid (l ++ putI ns = l ++ putN (ns.length : Int) ++ intsL ns) := by show _ = _; unfold putI; rw [List.append_assoc]
  have hlen : (ns.length : Int) ≤ 256 := by omega
  clear h ha hi
  go_enter Tryd.func75, Tryd.ntmps75
  go_wp2_with (first | (go_at_call 71; refine H71.out.mono ?_; rintro e w1 ⟨v1, rfl, hrow1, hb1, hg1⟩) | (go_at_call 48; refine (H48.out _ _ hrow1 hb1).mono ?_; rintro e w2 ⟨v2, rfl, hrow2, hb2, hg2⟩))
  go_ret
  exact ⟨_, rfl, by rw [HT.out]; exact hrow2, hW.trans (hb1.trans hb2), hg1.trans hg2⟩

theorem bats_take (bs : List Bat) (k : Nat) (h : k < bs.length) : batsL (bs.take (k + 1)) = batsL (bs.take k) ++ (batchL bs[k]).1 := by
  rw [List.take_succ_eq_append_getElem h, batsL_snoc]
theorem ents_take (es : List Ent) (k : Nat) (h : k < es.length) : entsL (es.take (k + 1)) = entsL (es.take k) ++ entL es[k] := by
  rw [List.take_succ_eq_append_getElem h, entsL_snoc]

set_option maxHeartbeats 1600000 in
theorem appBats_any {W0 w : World} {v : Value} {l : List UInt8} (hW : Below W0.heap.size W0 w) (h : Row w W0.heap.size v l) (a : Option Addr) (cap : Nat) (bs : List Bat) (ha : BatsAt W0 a bs) (hi : ∀ b ∈ bs, b.ints) (hn : bs.length ≤ 64) (hl : l.length ≤ 10000000) :
    Calls Tryd.prog 73 #[v, .slice a bs.length cap] w fun e w' => ∃ v', e = .returned v' ∧ Row w' W0.heap.size v' (l ++ putB bs) ∧ Below W0.heap.size W0 w' ∧ Grow w w' v v' := by
  have hs := hW.size
  have H71 := hid (one71 h hs (bs.length : Int) ⟨by omega, by omega⟩ (by omega))
  have hz := putN_length (bs.length : Int)
  have HT : Hid (l ++ putB bs = l ++ putN (bs.length : Int) ++ batsL bs) := by show _ = _; unfold putB; rw [List.append_assoc]
  have hlen : (bs.length : Int) ≤ 64 := by omega
  have hL : (l ++ putN (bs.length : Int)).length ≤ 10000010 := by simp only [List.length_append]; omega
  have HA := hid ha
  have HI := hid hi
  have HW := hid hW
  clear h ha hi hz hW
  generalize l ++ putN (bs.length : Int) = L at *
  go_enter Tryd.func73, Tryd.ntmps73
  go_wp2_with (go_at_call 71; refine H71.out.mono ?_; rintro e w1 ⟨v1, rfl, hrow1, hb1, hg1⟩)
  have H0 : Hid (Row w1 W0.heap.size v1 (L ++ batsL (bs.take 0)) ∧ Below W0.heap.size W0 w1 ∧ Grow w w1 v v1) := ⟨by simpa [batsL] using hrow1, HW.out.trans hb1, hg1⟩
  clear hrow1 hb1 hg1 H71
  go_loopg [0, 16] bs.length (fun kx s0 s16 wr => ∃ (k : Nat) (sv : Value), k ≤ bs.length ∧ bs.length - k ≤ kx ∧ s16 = .int .i64 k ∧ sv = s0 ∧ Hid (Row wr W0.heap.size sv (L ++ batsL (bs.take k)) ∧ Below W0.heap.size W0 wr ∧ Grow w wr v sv))
  case atStart => exact ⟨0, _, by omega, by omega, rfl, rfl, H0⟩
  case round =>
    obtain ⟨k, sv, hk, hkx, rfl, rfl, HD⟩ := hrel
    clear H0
    by_cases hlt : k < bs.length
    · have hlt' : (k : Int) < (bs.length : Int) := by omega
      obtain ⟨b, off, ra, rc, rfl, ⟨c0, c1, c2, c3, c4, c5⟩, hrecs⟩ := (HA.out.under HD.out.2.1).at k hlt
      have hbs := HD.out.2.1.size
      have hlen2 : (L ++ batsL (bs.take k)).length ≤ 20000000 := by
        have := batsL_length (bs.take k)
        have h2 : (bs.take k).length ≤ 64 := by simp; omega
        simp only [List.length_append]; omega
      have hbl := batchL_length bs[k]
      have HC := hid (batch_any bs[k] ra rc (hrecs.under ((Below.refl _ _).alloc (Nat.le_refl _) (.cells #[.int .i64 bs[k].base, .int .i64 bs[k].epoch, .int .i64 bs[k].pid, .int .i64 bs[k].pidEpoch, .int .i64 bs[k].seq, .slice ra bs[k].recs.length rc] 50))) (HI.out _ (List.getElem_mem hlt)))
      have HT2 : Hid (L ++ batsL (bs.take (k + 1)) = L ++ batsL (bs.take k) ++ (batchL bs[k]).1) := by show _ = _; rw [bats_take bs k hlt, List.append_assoc]
      have hrl := hrecs.len
      unfold maxLen at hrl
      clear hrecs
      generalize bs[k] = X at *
      generalize L ++ batsL (bs.take k) = M at *
      have HR := hid HD.out
      clear HD
      generalize batchL X = Y at *
      obtain ⟨y1, y2⟩ := Y
      simp only at *
      go_wp2_with (first | (go_at_call 88; refine HC.out.mono ?_; rintro e w2 ⟨rfl, hb2⟩; have hb2' := ((Below.refl _ wr).alloc (Nat.le_refl _) _).trans (hb2.mono (by simp)); have hs2 := hb2'.size; have hrow2 := HR.out.1.under (B' := 0) hb2') | (at_builtin; refine wpList_append_str rfl _ _ rfl W0.heap.size _ M rfl hrow2 y1 rfl (by omega) (by omega) ?_; intro v3 w3 hrow3 hb3 hg3))
      go_roundg (bs.length - (k + 1))
      case measure => omega
      case rel =>
        refine ⟨k + 1, v3, by omega, Nat.le_refl _, by go_num, rfl, ?_, ?_, ?_⟩
        · rw [HT2.out]; exact hrow3
        · exact HR.out.2.1.trans ((hb2'.mono (by omega)).trans hb3)
        · exact HR.out.2.2.trans ((Grow.under sv hb2').trans hg3)
    · have hlt' : ¬ (k : Int) < (bs.length : Int) := by omega
      have he : bs.take k = bs := List.take_of_length_le (by omega)
      have HE := hid HD.out
      rw [he] at HE
      clear he
      go_wp2
      go_ret
      exact ⟨_, rfl, by rw [HT.out]; exact HE.out.1, HE.out.2⟩

set_option maxHeartbeats 1600000 in
theorem appEnts_any {W0 w : World} {v : Value} {l : List UInt8} (hW : Below W0.heap.size W0 w) (h : Row w W0.heap.size v l) (a : Option Addr) (cap : Nat) (es : List Ent) (ha : EntsAt W0 a es) (hi : ∀ e ∈ es, e.ok ∧ e.data.length ≤ 2048) (hn : es.length ≤ 64) (hl : l.length ≤ 50000000) :
    Calls Tryd.prog 74 #[v, .slice a es.length cap] w fun e w' => ∃ v', e = .returned v' ∧ Row w' W0.heap.size v' (l ++ putE es) ∧ Below W0.heap.size W0 w' ∧ Grow w w' v v' := by
  have hs := hW.size
  have H71 := hid (one71 h hs (es.length : Int) ⟨by omega, by omega⟩ (by omega))
  have hz := putN_length (es.length : Int)
  have HT : Hid (l ++ putE es = l ++ putN (es.length : Int) ++ entsL es) := by show _ = _; unfold putE; rw [List.append_assoc]
  have hlen : (es.length : Int) ≤ 64 := by omega
  have hL : (l ++ putN (es.length : Int)).length ≤ 50000010 := by simp only [List.length_append]; omega
  have HA := hid ha
  have HI := hid hi
  have HW := hid hW
  clear h ha hi hz hW
  generalize l ++ putN (es.length : Int) = L at *
  go_enter Tryd.func74, Tryd.ntmps74
  go_wp2_with (go_at_call 71; refine H71.out.mono ?_; rintro e w1 ⟨v1, rfl, hrow1, hb1, hg1⟩)
  have H0 : Hid (Row w1 W0.heap.size v1 (L ++ entsL (es.take 0)) ∧ Below W0.heap.size W0 w1 ∧ Grow w w1 v v1) := ⟨by simpa [entsL] using hrow1, HW.out.trans hb1, hg1⟩
  clear hrow1 hb1 hg1 H71
  go_loopg [0, 14] es.length (fun kx s0 s14 wr => ∃ (k : Nat) (sv : Value), k ≤ es.length ∧ es.length - k ≤ kx ∧ s14 = .int .i64 k ∧ sv = s0 ∧ Hid (Row wr W0.heap.size sv (L ++ entsL (es.take k)) ∧ Below W0.heap.size W0 wr ∧ Grow w wr v sv))
  case atStart => exact ⟨0, _, by omega, by omega, rfl, rfl, H0⟩
  case round =>
    obtain ⟨k, sv, hk, hkx, rfl, rfl, HD⟩ := hrel
    clear H0
    by_cases hlt : k < es.length
    · have hlt' : (k : Int) < (es.length : Int) := by omega
      obtain ⟨b, off, rfl, c0, c1, c2⟩ := (HA.out.under HD.out.2.1).at k hlt
      have hbs := HD.out.2.1.size
      have hlen2 : (L ++ entsL (es.take k)).length ≤ 60000000 := by
        have := entsL_length (es.take k) (fun e he => (HI.out e (List.mem_of_mem_take he)).2)
        have h2 : (es.take k).length ≤ 64 := by simp; omega
        simp only [List.length_append]; omega
      obtain ⟨⟨ok1, ok2, ok3⟩, ok4⟩ := HI.out _ (List.getElem_mem hlt)
      have HT2 : Hid (L ++ entsL (es.take (k + 1)) = L ++ entsL (es.take k) ++ intsL [es[k].term, es[k].index] ++ textL es[k].data) := by show _ = _; rw [ents_take es k hlt, entL]; simp only [List.append_assoc]
      have hz2 := intsL_length [es[k].term, es[k].index]
      simp only [List.length_cons, List.length_nil] at hz2
      generalize es[k] = X at *
      generalize L ++ entsL (es.take k) = M at *
      have HR := hid HD.out
      clear HD
      have H48 := hid (two48 (HR.out.1.alloc (.cells #[.int .i64 X.term, .int .i64 X.index, .string (strOf X.data)] 52)) (by simp; omega) X.term X.index ok1 ok2 (by omega))
      rw [show (wr.alloc (.cells #[.int .i64 X.term, .int .i64 X.index, .string (strOf X.data)] 52)).heap.size = wr.heap.size + 1 by simp] at H48
      have H87 : Hid (∀ v1 w1, Row w1 W0.heap.size v1 (M ++ intsL [X.term, X.index]) → W0.heap.size ≤ w1.heap.size → Calls Tryd.prog 87 #[v1, .string (strOf X.data)] w1 fun e w' => ∃ v', e = .returned v' ∧ Row w' W0.heap.size v' (M ++ intsL [X.term, X.index] ++ textL X.data) ∧ Below W0.heap.size w1 w' ∧ Grow w1 w' v1 v') := fun v1 w1 h1 h2 => pText_any h1 h2 X.data (by simp only [List.length_append]; omega)
      have HG0 : Hid (Below W0.heap.size wr (wr.alloc (.cells #[.int .i64 X.term, .int .i64 X.index, .string (strOf X.data)] 52)) ∧ Grow wr (wr.alloc (.cells #[.int .i64 X.term, .int .i64 X.index, .string (strOf X.data)] 52)) sv sv ∧ sv.ownBlock ≠ some wr.heap.size) := ⟨(Below.refl _ _).alloc (by omega) _, (Grow.refl _ _).alloc _, HR.out.1.fresh⟩
      go_wp2_with fail
      refine H48.out.mono ?_
      rintro e w2 ⟨v2, rfl, hrow2, hb2, hg2⟩
      obtain ⟨g1, g2, g3⟩ := hg2.block (q := wr.heap.size) (by simp) HG0.out.2.2
      rw [heap_alloc_new] at g1
      have d2 := cell_blk g1 2 (.string (strOf X.data)) rfl
      have hs2 := hb2.size
      simp at hs2
      clear g1 g2
      go_wp2_with fail
      refine (H87.out _ _ hrow2 (by omega)).mono ?_
      rintro e w3 ⟨v3, rfl, hrow3, hb3, hg3⟩
      go_wp2
      go_roundg (es.length - (k + 1))
      case measure => omega
      case rel =>
        refine ⟨k + 1, v3, by omega, Nat.le_refl _, by go_num, rfl, ?_, ?_, ?_⟩
        · rw [HT2.out]; exact hrow3
        · exact HR.out.2.1.trans (HG0.out.1.trans (hb2.trans hb3))
        · exact HR.out.2.2.trans (HG0.out.2.1.trans (hg2.trans hg3))
    · have hlt' : ¬ (k : Int) < (es.length : Int) := by omega
      have he : es.take k = es := List.take_of_length_le (by omega)
      have HE := hid HD.out
      rw [he] at HE
      clear he
      go_wp2
      go_ret
      exact ⟨_, rfl, by rw [HT.out]; exact HE.out.1, HE.out.2⟩
end Go.Proofs.YtocdlaoklagdoaaDoor
