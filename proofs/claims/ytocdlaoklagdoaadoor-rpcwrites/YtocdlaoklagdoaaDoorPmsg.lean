/- Messages as lists: their bytes, what is right of them, what is read of bytes; that what is written is read back. -/
import Derived.Test.YtocdlaoklagdoaaDoorCodec
namespace Go.Proofs.YtocdlaoklagdoaaDoor
set_option linter.unusedSimpArgs false
set_option linter.unusedVariables false

structure Ent where
  term : Int
  index : Int
  data : List UInt8
structure Msg where
  kind : Int
  n0 : Int
  n1 : Int
  n2 : Int
  n3 : Int
  n4 : Int
  n5 : Int
  n6 : Int
  n7 : Int
  n8 : Int
  n9 : Int
  n10 : Int
  n11 : Int
  n12 : Int
  n13 : Int
  err : Int
  name : List UInt8
  text : List UInt8
  bats : List Bat
  ents : List Ent
  ints : List Int

def zeroMsg : Msg := ⟨0, 0, 0, 0, 0, 0, 0, 0, 0, 0, 0, 0, 0, 0, 0, 0, [], [], [], [], []⟩
def nums (m : Msg) : List Int := [m.n0, m.n1, m.n2, m.n3, m.n4, m.n5, m.n6, m.n7, m.n8, m.n9, m.n10, m.n11, m.n12, m.n13]

/- What is written. -/
def putN (n : Int) : List UInt8 := if n = 0 then [] else intL n
def putNs : List Int → List UInt8
  | [] => []
  | n :: r => putN n ++ putNs r
def putT (t : List UInt8) : List UInt8 := if t = [] then [] else textL t
def entL (e : Ent) : List UInt8 := intsL [e.term, e.index] ++ textL e.data
def entsL : List Ent → List UInt8
  | [] => []
  | e :: r => entL e ++ entsL r
def batsL : List Bat → List UInt8
  | [] => []
  | b :: r => (batchL b).1 ++ batsL r
def putB (l : List Bat) : List UInt8 := putN l.length ++ batsL l
def putE (l : List Ent) : List UInt8 := putN l.length ++ entsL l
def putI (l : List Int) : List UInt8 := putN l.length ++ intsL l
def tail19 (m : Msg) : List UInt8 := putI m.ints
def tail18 (m : Msg) : List UInt8 := putE m.ents ++ tail19 m
def tail17 (m : Msg) : List UInt8 := putB m.bats ++ tail18 m
def tail16 (m : Msg) : List UInt8 := putT m.text ++ tail17 m
def tail15 (m : Msg) : List UInt8 := putT m.name ++ tail16 m
def tail14 (m : Msg) : List UInt8 := putN m.err ++ tail15 m
def partsL (m : Msg) : List UInt8 := putNs (nums m) ++ tail14 m
/-- The parts from one on. -/
def fromL (k : Nat) (m : Msg) : List UInt8 :=
  if k < 14 then putNs ((nums m).drop k) ++ tail14 m
  else if k = 14 then tail14 m
  else if k = 15 then tail15 m
  else if k = 16 then tail16 m
  else if k = 17 then tail17 m
  else if k = 18 then tail18 m
  else if k = 19 then tail19 m
  else []

def there (m : Msg) : List Bool := (nums m).map (fun n => decide (n ≠ 0)) ++ [decide (m.err ≠ 0), decide (m.name ≠ []), decide (m.text ≠ []), decide (0 < m.bats.length), decide (0 < m.ents.length), decide (0 < m.ints.length)]
def bitV (i : Nat) (b : Bool) : Nat := if b then 2 ^ i else 0
def bitsOf : List Bool → Nat
  | [] => 0
  | b :: r => bitV 0 b + 2 * bitsOf r
def sumL (m : Msg) : Nat := bitsOf (there m)
def bodyM (m : Msg) : List UInt8 := intsL [m.kind, (sumL m : Int)] ++ partsL m

/- What is right. -/
def numOk (n : Int) : Bool := decide (-1 ≤ n) && decide (n ≤ 1000000000)
def numbersB (m : Msg) : Bool := (nums m).all numOk && (decide (1 ≤ m.kind) && decide (m.kind ≤ 28) && decide (0 ≤ m.err) && decide (m.err ≤ 23))
def entRight (e : Ent) : Int := if e.term < 0 ∨ 1000000000 < e.term ∨ e.index < 0 ∨ 1000000000 < e.index then 1 else if 2048 < e.data.length then 2 else 0
def firstE : List Int → Int
  | [] => 0
  | e :: r => if e = 0 then firstE r else e
def manyB (m : Msg) : Bool := decide (64 < m.bats.length) || decide (64 < m.ents.length) || decide (256 < m.ints.length)
def rightP (m : Msg) : Int :=
  if numbersB m = false then 1
  else if manyB m = true then 3
  else if 32 < m.name.length then 2
  else if firstE (m.bats.map rightL) = 0 then firstE (m.ents.map entRight)
  else firstE (m.bats.map rightL)
def rightM (m : Msg) : List UInt8 × Int :=
  if rightP m = 0 then (if 65528 < m.text.length then ([], 2) else if 65528 < (bodyM m).length then ([], 2) else (bodyM m, 0))
  else ([], rightP m)
def frameL (l : List UInt8) : List UInt8 := fourL l.length ++ (fourL (crcL l) ++ l)
def encodeL (m : Msg) : List UInt8 × Int := if (rightM m).2 = 0 then (frameL (rightM m).1, 0) else ([], (rightM m).2)

/- What is read. -/
def hasB (p : Int) (i : Nat) : Bool := decide (p / 2 ^ i % 2 = 1)
def optN (b : Bool) (s : RS) : Int × RS := if b then numS s else (0, s)
/-- k numbers behind i, each if it is told. -/
def someS (p : Int) : Nat → RS → List Int × RS
  | 0, s => ([], s)
  | k + 1, s => ((someS p k s).1 ++ [(optN (hasB p k) (someS p k s).2).1], (optN (hasB p k) (someS p k s).2).2)
def batS (s : RS) : Bat × RS := if (readBatchL s.rest).2.2 = 0 then ((readBatchL s.rest).1, ⟨s.rest.drop (readBatchL s.rest).2.1, s.wrong⟩) else (zeroBat, spoiled)
def entS (s : RS) : Ent × RS := (⟨(numS s).1, (numS (numS s).2).1, (textS 2048 (numS (numS s).2).2).1⟩, (textS 2048 (numS (numS s).2).2).2)
def manyS {α : Type} (one : RS → α × RS) : Nat → RS → List α × RS
  | 0, s => ([], s)
  | k + 1, s => ((manyS one k s).1 ++ [(one (manyS one k s).2).1], (one (manyS one k s).2).2)
def listS {α : Type} (most : Int) (one : RS → α × RS) (s : RS) : List α × RS := manyS one (countS most s).1.toNat (countS most s).2
def optT (b : Bool) (most : Int) (s : RS) : List UInt8 × RS := if b then textS most s else ([], s)
def optL {α : Type} (b : Bool) (most : Int) (one : RS → α × RS) (s : RS) : List α × RS := if b then listS most one s else ([], s)

def msgOf (k : Int) (ns : List Int) (e : Int) (n t : List UInt8) (bs : List Bat) (es : List Ent) (is : List Int) : Msg :=
  ⟨k, ns.getD 0 0, ns.getD 1 0, ns.getD 2 0, ns.getD 3 0, ns.getD 4 0, ns.getD 5 0, ns.getD 6 0, ns.getD 7 0, ns.getD 8 0, ns.getD 9 0, ns.getD 10 0, ns.getD 11 0, ns.getD 12 0, ns.getD 13 0, e, n, t, bs, es, is⟩
def partsS (s : RS) : Msg × RS :=
  let a := numS s
  let p := numS a.2
  let ns := someS p.1 14 p.2
  let e := optN (hasB p.1 14) ns.2
  let n := optT (hasB p.1 15) 32 e.2
  let t := optT (hasB p.1 16) 65528 n.2
  let b := optL (hasB p.1 17) 64 batS t.2
  let es := optL (hasB p.1 18) 64 entS b.2
  let is := optL (hasB p.1 19) 256 numS es.2
  (msgOf a.1 ns.1 e.1 n.1 t.1 b.1 es.1 is.1, is.2)
def bodyR (l : List UInt8) : Msg × Bool := ((partsS ⟨l, false⟩).1, doneS (partsS ⟨l, false⟩).2 && (decide ((rightM (partsS ⟨l, false⟩).1).2 = 0) && decide ((rightM (partsS ⟨l, false⟩).1).1 = l)))
def decodeL (l : List UInt8) : Msg × Int :=
  if l.length < 8 then (zeroMsg, 5)
  else if 65528 < fourN l then (zeroMsg, 2)
  else if (l.drop 8).length < fourN l then (zeroMsg, 5)
  else if fourN l < (l.drop 8).length then (zeroMsg, 4)
  else if crcL (l.drop 8) ≠ fourN (l.drop 4) then (zeroMsg, 6)
  else if (bodyR (l.drop 8)).2 = false then (zeroMsg, 4)
  else ((bodyR (l.drop 8)).1, 0)

/- Bits. -/
theorem bitsOf_lt : ∀ l : List Bool, bitsOf l < 2 ^ l.length
  | [] => by simp [bitsOf]
  | b :: r => by
    have := bitsOf_lt r
    simp only [bitsOf, List.length_cons, Nat.pow_succ]
    have hb : bitV 0 b ≤ 1 := by cases b <;> simp [bitV]
    omega
theorem bitsOf_snoc : ∀ (l : List Bool) (b : Bool), bitsOf (l ++ [b]) = bitsOf l + bitV l.length b
  | [], b => by simp [bitsOf]
  | c :: r, b => by
    simp only [List.cons_append, bitsOf, bitsOf_snoc r b, List.length_cons]
    have : 2 * bitV r.length b = bitV (r.length + 1) b := by cases b <;> simp [bitV, Nat.pow_succ]; omega
    omega
theorem bitsOf_bit : ∀ (l : List Bool) (i : Nat), bitsOf l / 2 ^ i % 2 = bitV 0 (l.getD i false)
  | [], i => by simp [bitsOf, bitV]
  | b :: r, 0 => by
    simp only [bitsOf, Nat.pow_zero, Nat.div_one, List.getD_cons_zero]
    have hb : bitV 0 b ≤ 1 := by cases b <;> simp [bitV]
    omega
  | b :: r, i + 1 => by
    have ih := bitsOf_bit r i
    simp only [bitsOf, List.getD_cons_succ]
    have hb : bitV 0 b ≤ 1 := by cases b <;> simp [bitV]
    rw [Nat.pow_succ, Nat.mul_comm (2 ^ i) 2, ← Nat.div_div_eq_div_mul, show (bitV 0 b + 2 * bitsOf r) / 2 = bitsOf r by omega]
    exact ih
theorem there_length (m : Msg) : (there m).length = 20 := rfl
theorem sumL_lt (m : Msg) : sumL m < 1048576 := by
  have := bitsOf_lt (there m)
  rw [there_length] at this
  exact this
theorem has_sum (m : Msg) (i : Nat) : hasB (sumL m) i = (there m).getD i false := by
  have h := bitsOf_bit (there m) i
  unfold hasB sumL
  have e : ((bitsOf (there m) : Nat) : Int) / 2 ^ i % 2 = ((bitsOf (there m) / 2 ^ i % 2 : Nat) : Int) := by simp
  rw [e, h]
  cases (there m).getD i false <;> simp [bitV]

/- Lists of parts. -/
theorem putNs_append : ∀ l m : List Int, putNs (l ++ m) = putNs l ++ putNs m
  | [], m => rfl
  | n :: r, m => by simp [putNs, putNs_append r m]
theorem putNs_snoc (l : List Int) (n : Int) : putNs (l ++ [n]) = putNs l ++ putN n := by rw [putNs_append]; simp [putNs]
theorem batsL_append : ∀ l m : List Bat, batsL (l ++ m) = batsL l ++ batsL m
  | [], m => rfl
  | n :: r, m => by simp [batsL, batsL_append r m]
theorem batsL_snoc (l : List Bat) (n : Bat) : batsL (l ++ [n]) = batsL l ++ (batchL n).1 := by rw [batsL_append]; simp [batsL]
theorem entsL_append : ∀ l m : List Ent, entsL (l ++ m) = entsL l ++ entsL m
  | [], m => rfl
  | n :: r, m => by simp [entsL, entsL_append r m]
theorem entsL_snoc (l : List Ent) (n : Ent) : entsL (l ++ [n]) = entsL l ++ entL n := by rw [entsL_append]; simp [entsL]
theorem putN_length (n : Int) : (putN n).length ≤ 10 := by
  unfold putN
  split
  · simp
  · exact (intL_length n).2
theorem putNs_length : ∀ l : List Int, (putNs l).length ≤ l.length * 10
  | [] => by simp [putNs]
  | n :: r => by
    have := putNs_length r
    have := putN_length n
    simp only [putNs, List.length_append, List.length_cons]
    omega
theorem batchL_length (b : Bat) : (batchL b).1.length ≤ 4096 := by
  unfold batchL
  split
  · rename_i h
    have := (rightL_ok h).2.2.2.2.2.2
    simp only [List.length_append, fourL, List.length_cons, List.length_nil]
    omega
  · simp
theorem batsL_length : ∀ l : List Bat, (batsL l).length ≤ l.length * 4096
  | [] => by simp [batsL]
  | n :: r => by
    have := batsL_length r
    have := batchL_length n
    simp only [batsL, List.length_append, List.length_cons]
    omega
theorem entL_length (e : Ent) (h : e.data.length ≤ 2048) : (entL e).length ≤ 2078 := by
  have h1 := intsL_length [e.term, e.index]
  have h2 := textL_length e.data
  simp only [List.length_cons, List.length_nil] at h1
  unfold entL
  rw [List.length_append]
  omega
theorem entsL_length : ∀ l : List Ent, (∀ e ∈ l, e.data.length ≤ 2048) → (entsL l).length ≤ l.length * 2078
  | [], _ => by simp [entsL]
  | n :: r, h => by
    have h1 := entsL_length r (fun e he => h e (by simp [he]))
    have h2 := entL_length n (h n (by simp))
    simp only [entsL, List.length_append, List.length_cons]
    omega

/- From the first part that is there on, all is written. -/
theorem first_parts (m : Msg) (k : Nat) (h : ∀ i, i < k → (there m).getD i false = false) (hk : k ≤ 20) : fromL k m = partsL m ∨ (k = 20 ∧ partsL m = []) := by
  have g : ∀ i, i < k → i < 14 → (nums m).getD i 0 = 0 := fun i hi h14 => by
    have h1 := h i hi
    match i, h14 with
    | 0, _ => simpa [there, nums] using h1
    | 1, _ => simpa [there, nums] using h1
    | 2, _ => simpa [there, nums] using h1
    | 3, _ => simpa [there, nums] using h1
    | 4, _ => simpa [there, nums] using h1
    | 5, _ => simpa [there, nums] using h1
    | 6, _ => simpa [there, nums] using h1
    | 7, _ => simpa [there, nums] using h1
    | 8, _ => simpa [there, nums] using h1
    | 9, _ => simpa [there, nums] using h1
    | 10, _ => simpa [there, nums] using h1
    | 11, _ => simpa [there, nums] using h1
    | 12, _ => simpa [there, nums] using h1
    | 13, _ => simpa [there, nums] using h1
  have hl : (nums m).length = 14 := rfl
  have z : ∀ (l : List Int) (j : Nat), (∀ i, i < j → l.getD i 0 = 0) → putNs (l.drop j) = putNs l := fun l => by
    induction l with
    | nil => intro j _; simp
    | cons a r ih =>
      intro j hj
      cases j with
      | zero => rfl
      | succ j =>
        have h0 : a = 0 := by simpa using hj 0 (by omega)
        have hr := ih j (fun i hi => by simpa using hj (i + 1) (by omega))
        simp only [List.drop_succ_cons, putNs, hr, h0, putN, if_true, List.nil_append]
  by_cases h14 : k < 14
  · left
    unfold fromL partsL
    rw [if_pos h14, z (nums m) k (fun i hi => g i hi (by omega))]
  · have e0 : putNs (nums m) = [] := by
      have := z (nums m) 14 (fun i hi => g i (by omega) hi)
      rw [List.drop_of_length_le (by rw [hl]; omega)] at this
      exact this.symm
    have e14 : 14 < k → putN m.err = [] := fun hk => by
      have : m.err = 0 := by simpa [there, nums] using h 14 hk
      simp [putN, this]
    have e15 : 15 < k → putT m.name = [] := fun hk => by
      have : m.name = [] := by simpa [there, nums] using h 15 hk
      simp [putT, this]
    have e16 : 16 < k → putT m.text = [] := fun hk => by
      have : m.text = [] := by simpa [there, nums] using h 16 hk
      simp [putT, this]
    have e17 : 17 < k → putB m.bats = [] := fun hk => by
      have : m.bats = [] := by simpa [there, nums] using h 17 hk
      simp [putB, this, putN, batsL]
    have e18 : 18 < k → putE m.ents = [] := fun hk => by
      have : m.ents = [] := by simpa [there, nums] using h 18 hk
      simp [putE, this, putN, entsL]
    have e19 : 19 < k → putI m.ints = [] := fun hk => by
      have : m.ints = [] := by simpa [there, nums] using h 19 hk
      simp [putI, this, putN, intsL]
    have hc : k = 14 ∨ k = 15 ∨ k = 16 ∨ k = 17 ∨ k = 18 ∨ k = 19 ∨ k = 20 := by omega
    rcases hc with rfl | rfl | rfl | rfl | rfl | rfl | rfl
    · left; simp [fromL, partsL, e0]
    · left; simp [fromL, partsL, e0, tail14, e14]
    · left; simp [fromL, partsL, e0, tail14, tail15, e14, e15]
    · left; simp [fromL, partsL, e0, tail14, tail15, tail16, e14, e15, e16]
    · left; simp [fromL, partsL, e0, tail14, tail15, tail16, tail17, e14, e15, e16, e17]
    · left; simp [fromL, partsL, e0, tail14, tail15, tail16, tail17, tail18, e14, e15, e16, e17, e18]
    · right; exact ⟨rfl, by simp [partsL, e0, tail14, tail15, tail16, tail17, tail18, tail19, e14, e15, e16, e17, e18, e19]⟩
end Go.Proofs.YtocdlaoklagdoaaDoor
