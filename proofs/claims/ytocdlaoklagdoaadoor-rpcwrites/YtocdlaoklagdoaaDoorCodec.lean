/- Batches and records of metadata as bytes, on lists: what may be, what is written, what is read. -/
import Derived.Test.YtocdlaoklagdoaaDoorCrc
import Derived.Test.YtocdlaoklagdoaaDoorNum
namespace Go.Proofs.YtocdlaoklagdoaaDoor
set_option linter.unusedSimpArgs false
set_option linter.unusedVariables false

structure Rec where
  key : List UInt8
  val : List UInt8
  time : Int

structure Bat where
  base : Int
  epoch : Int
  pid : Int
  pidEpoch : Int
  seq : Int
  recs : List Rec

structure Met where
  kind : Int
  a : Int
  b : Int
  c : Int
  d : Int
  name : List UInt8
  text : List UInt8
  list : List Int

def zeroBat : Bat := ⟨0, 0, 0, 0, 0, []⟩
def zeroMet : Met := ⟨0, 0, 0, 0, 0, [], [], []⟩

def textL (t : List UInt8) : List UInt8 := intL t.length ++ t
def recL (r : Rec) : List UInt8 := intL r.time ++ textL r.key ++ textL r.val
def recsL : List Rec → List UInt8
  | [] => []
  | r :: s => recL r ++ recsL s
def intsL : List Int → List UInt8
  | [] => []
  | n :: s => intL n ++ intsL s
def numsOf (b : Bat) : List Int := [b.base, b.epoch, b.pid, b.pidEpoch, b.seq]
def bodyL (b : Bat) : List UInt8 := intsL (numsOf b) ++ intL b.recs.length ++ recsL b.recs
def metaL (m : Met) : List UInt8 := intsL [m.kind, m.a, m.b, m.c, m.d] ++ textL m.name ++ textL m.text ++ intL m.list.length ++ intsL m.list

theorem recsL_append : ∀ l m : List Rec, recsL (l ++ m) = recsL l ++ recsL m
  | [], m => rfl
  | r :: s, m => by simp [recsL, recsL_append s m]
theorem intsL_append : ∀ l m : List Int, intsL (l ++ m) = intsL l ++ intsL m
  | [], m => rfl
  | r :: s, m => by simp [intsL, intsL_append s m]
theorem recsL_snoc (l : List Rec) (r : Rec) : recsL (l ++ [r]) = recsL l ++ recL r := by rw [recsL_append]; simp [recsL]
theorem intsL_snoc (l : List Int) (n : Int) : intsL (l ++ [n]) = intsL l ++ intL n := by rw [intsL_append]; simp [intsL]
theorem textL_length (t : List UInt8) : (textL t).length ≤ 10 + t.length := by
  have := intL_length t.length
  simp [textL]; omega
theorem recL_length (r : Rec) : (recL r).length ≤ 30 + r.key.length + r.val.length := by
  have := intL_length r.time
  have := textL_length r.key
  have := textL_length r.val
  simp [recL]; omega
theorem recsL_length (m : Nat) : ∀ l : List Rec, (∀ r ∈ l, r.key.length ≤ m ∧ r.val.length ≤ m) → (recsL l).length ≤ l.length * (30 + 2 * m)
  | [], _ => by simp [recsL]
  | r :: s, h => by
    have h1 := recL_length r
    have h2 := h r (by simp)
    have h3 := recsL_length m s (fun x hx => h x (by simp [hx]))
    simp only [recsL, List.length_append, List.length_cons, Nat.add_mul]
    omega
theorem intsL_length : ∀ l : List Int, (intsL l).length ≤ l.length * 10
  | [] => by simp [intsL]
  | n :: s => by
    have h1 := intL_length n
    have h3 := intsL_length s
    simp only [intsL, List.length_append, List.length_cons, Nat.add_mul]
    omega

/-- Four bytes, the highest first. -/
def fourL (n : Nat) : List UInt8 := [UInt8.ofNat (n / 16777216), UInt8.ofNat (n / 65536), UInt8.ofNat (n / 256), UInt8.ofNat n]
def fourN : List UInt8 → Nat
  | a :: b :: c :: d :: _ => a.toNat * 16777216 + b.toNat * 65536 + c.toNat * 256 + d.toNat
  | _ => 0
theorem fourN_fourL (n : Nat) (more : List UInt8) (h : n < 4294967296) : fourN (fourL n ++ more) = n := by
  simp [fourL, fourN]; omega
theorem fourN_lt (l : List UInt8) : fourN l < 4294967296 := by
  unfold fourN
  split
  · rename_i a b c d r
    have := a.toNat_lt; have := b.toNat_lt; have := c.toNat_lt; have := d.toNat_lt
    omega
  · omega

/- What may be. -/
def inB (n : Int) : Bool := decide (0 ≤ n) && decide (n ≤ 1000000000)
def numsB (b : Bat) : Bool := decide (0 ≤ b.base) && inB b.epoch && inB b.pid && inB b.pidEpoch && inB b.seq && (!(b.pid == 0) || (b.pidEpoch == 0 && b.seq == 0))
def timesB (l : List Rec) : Bool := l.all fun r => inB r.time
def longB (l : List Rec) : Bool := l.any fun r => decide (1000 < r.key.length) || decide (1000 < r.val.length)
def overB (b : Bat) : Bool := decide (1000000000 - ((b.recs.length : Int) - 1) < b.base) || decide (1000000 - ((b.recs.length : Int) - 1) < b.seq)
def rightL (b : Bat) : Int :=
  if (numsB b && timesB b.recs && !b.recs.isEmpty) = false then 1
  else if 64 < b.recs.length then 3
  else if longB b.recs = true then 2
  else if overB b = true then 20
  else if 4096 < (bodyL b).length + 8 then 2 else 0

theorem rightL_ok {b : Bat} (h : rightL b = 0) : numsB b = true ∧ timesB b.recs = true ∧ b.recs ≠ [] ∧ b.recs.length ≤ 64 ∧ longB b.recs = false ∧ overB b = false ∧ (bodyL b).length ≤ 4088 := by
  unfold rightL at h
  by_cases h1 : (numsB b && timesB b.recs && !b.recs.isEmpty) = false
  · rw [if_pos h1] at h; cases h
  rw [if_neg h1] at h
  by_cases h2 : 64 < b.recs.length
  · rw [if_pos h2] at h; cases h
  rw [if_neg h2] at h
  by_cases h3 : longB b.recs = true
  · rw [if_pos h3] at h; cases h
  rw [if_neg h3] at h
  by_cases h4 : overB b = true
  · rw [if_pos h4] at h; cases h
  rw [if_neg h4] at h
  by_cases h5 : 4096 < (bodyL b).length + 8
  · rw [if_pos h5] at h; cases h
  simp at h1 h3 h4
  exact ⟨h1.1, h1.2.1, h1.2.2, by omega, h3, h4, by omega⟩

def batchL (b : Bat) : List UInt8 × Int := if rightL b = 0 then (fourL (bodyL b).length ++ fourL (crcL (bodyL b)) ++ bodyL b, 0) else ([], rightL b)

def metB (m : Met) : Int :=
  if 32 < m.name.length ∨ 1000 < m.text.length then 2
  else if 64 < m.list.length then 3
  else if 2048 < (metaL m).length + 4 then 2 else 0
def metaW (m : Met) : List UInt8 × Int := if metB m = 0 then (fourL (crcL (metaL m)) ++ metaL m, 0) else ([], metB m)

/- A reader: what is left; was anything wrong? -/
structure RS where
  rest : List UInt8
  wrong : Bool
def spoiled : RS := ⟨[], true⟩
def numS (s : RS) : Int × RS := if (readL s.rest).2.2 = 0 then ((readL s.rest).1, ⟨s.rest.drop (readL s.rest).2.1, s.wrong⟩) else (0, spoiled)
def countS (most : Int) (s : RS) : Int × RS := if (numS s).1 < 0 ∨ most < (numS s).1 then (0, spoiled) else numS s
def textS (most : Int) (s : RS) : List UInt8 × RS :=
  if ((countS most s).2.rest.length : Int) < (countS most s).1 then ([], spoiled)
  else ((countS most s).2.rest.take (countS most s).1.toNat, ⟨(countS most s).2.rest.drop (countS most s).1.toNat, (countS most s).2.wrong⟩)
def recS (s : RS) : Rec × RS :=
  (⟨(textS 1000 (numS s).2).1, (textS 1000 (textS 1000 (numS s).2).2).1, (numS s).1⟩, (textS 1000 (textS 1000 (numS s).2).2).2)
def recsS : Nat → RS → List Rec × RS
  | 0, s => ([], s)
  | n + 1, s => ((recsS n s).1 ++ [(recS (recsS n s).2).1], (recS (recsS n s).2).2)
def numsS : Nat → RS → List Int × RS
  | 0, s => ([], s)
  | n + 1, s => ((numsS n s).1 ++ [(numS (numsS n s).2).1], (numS (numsS n s).2).2)
def doneS (s : RS) : Bool := !s.wrong && s.rest.isEmpty

/-- A batch's body, read: the batch, and whether the bytes have the form. -/
def bodyS (l : List UInt8) : Bat × Bool :=
  let s0 : RS := ⟨l, false⟩
  let a1 := numS s0
  let a2 := numS a1.2
  let a3 := numS a2.2
  let a4 := numS a3.2
  let a5 := numS a4.2
  let c := countS 64 a5.2
  let r := recsS c.1.toNat c.2
  (⟨a1.1, a2.1, a3.1, a4.1, a5.1, r.1⟩, doneS r.2)
def readBatchL (l : List UInt8) : Bat × Nat × Int :=
  if l.length < 8 then (zeroBat, 0, 5)
  else if 4096 < 8 + fourN l then (zeroBat, 0, 2)
  else if l.length < 8 + fourN l then (zeroBat, 0, 5)
  else if fourN (l.drop 4) ≠ crcL ((l.drop 8).take (fourN l)) then (zeroBat, 0, 6)
  else if (bodyS ((l.drop 8).take (fourN l))).2 = false ∨ rightL (bodyS ((l.drop 8).take (fourN l))).1 ≠ 0 then (zeroBat, 0, 4)
  else ((bodyS ((l.drop 8).take (fourN l))).1, 8 + fourN l, 0)

def metS (l : List UInt8) : Met × Bool :=
  let s0 : RS := ⟨l, false⟩
  let a1 := numS s0
  let a2 := numS a1.2
  let a3 := numS a2.2
  let a4 := numS a3.2
  let a5 := numS a4.2
  let n := textS 32 a5.2
  let t := textS 1000 n.2
  let c := countS 64 t.2
  let r := numsS c.1.toNat c.2
  (⟨a1.1, a2.1, a3.1, a4.1, a5.1, n.1, t.1, r.1⟩, doneS r.2)
def readMetaL (l : List UInt8) : Met × Int :=
  if l.length < 4 then (zeroMet, 5)
  else if 2048 < l.length then (zeroMet, 2)
  else if fourN l ≠ crcL (l.drop 4) then (zeroMet, 6)
  else if (metS (l.drop 4)).2 = false then (zeroMet, 4)
  else ((metS (l.drop 4)).1, 0)

/- What is written is read as it was. -/
def I64 (n : Int) : Prop := -9223372036854775808 ≤ n ∧ n ≤ 9223372036854775807

theorem numS_intL (n : Int) (more : List UInt8) (h : I64 n) : numS ⟨intL n ++ more, false⟩ = (n, ⟨more, false⟩) := by
  unfold numS
  simp [readL_intL n more h.1 h.2]
theorem countS_intL (most n : Int) (more : List UInt8) (h : I64 n) (h0 : 0 ≤ n) (h1 : n ≤ most) : countS most ⟨intL n ++ more, false⟩ = (n, ⟨more, false⟩) := by
  unfold countS
  rw [numS_intL n more h, if_neg (by simp only; omega)]
theorem textS_textL (most : Int) (t more : List UInt8) (h : (t.length : Int) ≤ most) (hm : most ≤ 1000) : textS most ⟨textL t ++ more, false⟩ = (t, ⟨more, false⟩) := by
  have e : textL t ++ more = intL t.length ++ (t ++ more) := by simp [textL]
  unfold textS
  rw [e, countS_intL most t.length (t ++ more) ⟨by omega, by omega⟩ (by omega) h, if_neg (by simp; omega)]
  simp
theorem recS_recL (r : Rec) (more : List UInt8) (ht : I64 r.time) (hk : r.key.length ≤ 1000) (hv : r.val.length ≤ 1000) : recS ⟨recL r ++ more, false⟩ = (r, ⟨more, false⟩) := by
  have e : recL r ++ more = intL r.time ++ (textL r.key ++ (textL r.val ++ more)) := by simp [recL]
  unfold recS
  rw [e, numS_intL _ _ ht]
  simp only
  rw [textS_textL 1000 r.key _ (by omega) (by omega)]
  simp only
  rw [textS_textL 1000 r.val _ (by omega) (by omega)]
theorem recsS_take (l : List Rec) (more : List UInt8) (h : ∀ r ∈ l, I64 r.time ∧ r.key.length ≤ 1000 ∧ r.val.length ≤ 1000) : ∀ n, n ≤ l.length → recsS n ⟨recsL l ++ more, false⟩ = (l.take n, ⟨recsL (l.drop n) ++ more, false⟩)
  | 0, _ => by simp [recsS]
  | n + 1, hn => by
    have ih := recsS_take l more h n (by omega)
    have hr := h l[n] (List.getElem_mem _)
    have e : recsL (l.drop n) ++ more = recL l[n] ++ (recsL (l.drop (n + 1)) ++ more) := by
      rw [List.drop_eq_getElem_cons (show n < l.length by omega)]
      simp [recsL]
    simp only [recsS, ih, e, recS_recL l[n] _ hr.1 hr.2.1 hr.2.2]
    rw [List.take_succ_eq_append_getElem (show n < l.length by omega)]
theorem recsS_recsL (l : List Rec) (more : List UInt8) (h : ∀ r ∈ l, I64 r.time ∧ r.key.length ≤ 1000 ∧ r.val.length ≤ 1000) : recsS l.length ⟨recsL l ++ more, false⟩ = (l, ⟨more, false⟩) := by
  have := recsS_take l more h l.length (Nat.le_refl _)
  simpa [recsL] using this
theorem numsS_take (l : List Int) (more : List UInt8) (h : ∀ n ∈ l, I64 n) : ∀ n, n ≤ l.length → numsS n ⟨intsL l ++ more, false⟩ = (l.take n, ⟨intsL (l.drop n) ++ more, false⟩)
  | 0, _ => by simp [numsS]
  | n + 1, hn => by
    have ih := numsS_take l more h n (by omega)
    have hr := h l[n] (List.getElem_mem _)
    have e : intsL (l.drop n) ++ more = intL l[n] ++ (intsL (l.drop (n + 1)) ++ more) := by
      rw [List.drop_eq_getElem_cons (show n < l.length by omega)]
      simp [intsL]
    simp only [numsS, ih, e, numS_intL l[n] _ hr]
    rw [List.take_succ_eq_append_getElem (show n < l.length by omega)]
theorem numsS_intsL (l : List Int) (more : List UInt8) (h : ∀ n ∈ l, I64 n) : numsS l.length ⟨intsL l ++ more, false⟩ = (l, ⟨more, false⟩) := by
  have := numsS_take l more h l.length (Nat.le_refl _)
  simpa [intsL] using this

theorem inB_iff (n : Int) : inB n = true ↔ 0 ≤ n ∧ n ≤ 1000000000 := by simp [inB]
theorem i64_of_in {n : Int} (h : inB n = true) : I64 n := by rw [inB_iff] at h; unfold I64; omega

theorem bodyS_bodyL (b : Bat) (hb : I64 b.base) (h : rightL b = 0) : bodyS (bodyL b) = (b, true) := by
  obtain ⟨h1, h2, h3, h4, h5, h6, h7⟩ := rightL_ok h
  simp only [numsB, Bool.and_eq_true] at h1
  obtain ⟨⟨⟨⟨⟨_, e2⟩, e3⟩, e4⟩, e5⟩, _⟩ := h1
  have hr : ∀ r ∈ b.recs, I64 r.time ∧ r.key.length ≤ 1000 ∧ r.val.length ≤ 1000 := by
    intro r hr
    simp only [timesB, List.all_eq_true] at h2
    simp only [longB, List.any_eq_false, Bool.or_eq_true, decide_eq_true_eq] at h5
    have a := h2 r hr
    have c := h5 r hr
    exact ⟨i64_of_in a, by omega, by omega⟩
  have e : bodyL b = intL b.base ++ (intL b.epoch ++ (intL b.pid ++ (intL b.pidEpoch ++ (intL b.seq ++ (intL b.recs.length ++ (recsL b.recs ++ [])))))) := by simp [bodyL, numsOf, intsL]
  unfold bodyS
  rw [e]
  simp only [numS_intL _ _ hb, numS_intL _ _ (i64_of_in e2), numS_intL _ _ (i64_of_in e3), numS_intL _ _ (i64_of_in e4), numS_intL _ _ (i64_of_in e5),
    countS_intL 64 _ _ (show I64 (b.recs.length : Int) from ⟨by omega, by omega⟩) (by omega) (by omega), Int.toNat_natCast, recsS_recsL b.recs [] hr]
  rfl

theorem readBatchL_batchL (b : Bat) (more : List UInt8) (hb : I64 b.base) (h : rightL b = 0) : readBatchL ((batchL b).1 ++ more) = (b, (batchL b).1.length, 0) := by
  obtain ⟨_, _, _, _, _, _, h7⟩ := rightL_ok h
  have e1 : (batchL b).1 = fourL (bodyL b).length ++ (fourL (crcL (bodyL b)) ++ bodyL b) := by unfold batchL; rw [if_pos h]; simp
  have hc := crcL_lt (bodyL b)
  have f1 : fourN (fourL (bodyL b).length ++ (fourL (crcL (bodyL b)) ++ (bodyL b ++ more))) = (bodyL b).length := fourN_fourL _ _ (by omega)
  have f2 : (fourL (bodyL b).length ++ (fourL (crcL (bodyL b)) ++ (bodyL b ++ more))).drop 4 = fourL (crcL (bodyL b)) ++ (bodyL b ++ more) := rfl
  have f3 : (fourL (bodyL b).length ++ (fourL (crcL (bodyL b)) ++ (bodyL b ++ more))).drop 8 = bodyL b ++ more := rfl
  have f4 : fourN (fourL (crcL (bodyL b)) ++ (bodyL b ++ more)) = crcL (bodyL b) := fourN_fourL _ _ hc
  have f5 : (bodyL b ++ more).take (bodyL b).length = bodyL b := List.take_left
  have f6 : (fourL (bodyL b).length ++ (fourL (crcL (bodyL b)) ++ (bodyL b ++ more))).length = 8 + (bodyL b).length + more.length := by simp [fourL]; omega
  have f7 : (fourL (bodyL b).length ++ (fourL (crcL (bodyL b)) ++ bodyL b)).length = 8 + (bodyL b).length := by simp [fourL]; omega
  rw [e1, List.append_assoc, List.append_assoc]
  unfold readBatchL
  rw [f1, f2, f3, f4, f5, f6, f7, bodyS_bodyL b hb h, if_neg (by omega), if_neg (by omega), if_neg (by omega), if_neg (by simp), if_neg (by simp [h])]

theorem metS_metaL (m : Met) (h : I64 m.kind ∧ I64 m.a ∧ I64 m.b ∧ I64 m.c ∧ I64 m.d) (hl : ∀ n ∈ m.list, I64 n) (hn : m.name.length ≤ 32) (ht : m.text.length ≤ 1000) (hm : m.list.length ≤ 64) : metS (metaL m) = (m, true) := by
  have e : metaL m = intL m.kind ++ (intL m.a ++ (intL m.b ++ (intL m.c ++ (intL m.d ++ (textL m.name ++ (textL m.text ++ (intL m.list.length ++ (intsL m.list ++ [])))))))) := by simp [metaL, intsL]
  unfold metS
  rw [e]
  simp only [numS_intL _ _ h.1, numS_intL _ _ h.2.1, numS_intL _ _ h.2.2.1, numS_intL _ _ h.2.2.2.1, numS_intL _ _ h.2.2.2.2, textS_textL 32 m.name _ (by omega) (by omega), textS_textL 1000 m.text _ (by omega) (by omega),
    countS_intL 64 _ _ (show I64 (m.list.length : Int) from ⟨by omega, by omega⟩) (by omega) (by omega), Int.toNat_natCast, numsS_intsL m.list [] hl]
  rfl

theorem metB_ok {m : Met} (h : metB m = 0) : m.name.length ≤ 32 ∧ m.text.length ≤ 1000 ∧ m.list.length ≤ 64 ∧ (metaL m).length ≤ 2044 := by
  unfold metB at h
  by_cases h1 : 32 < m.name.length ∨ 1000 < m.text.length
  · rw [if_pos h1] at h; cases h
  rw [if_neg h1] at h
  by_cases h2 : 64 < m.list.length
  · rw [if_pos h2] at h; cases h
  rw [if_neg h2] at h
  by_cases h3 : 2048 < (metaL m).length + 4
  · rw [if_pos h3] at h; cases h
  omega

theorem readMetaL_metaW (m : Met) (hi : I64 m.kind ∧ I64 m.a ∧ I64 m.b ∧ I64 m.c ∧ I64 m.d) (hl : ∀ n ∈ m.list, I64 n) (h : metB m = 0) : readMetaL (metaW m).1 = (m, 0) := by
  obtain ⟨h1, h2, h3, h4⟩ := metB_ok h
  have e1 : (metaW m).1 = fourL (crcL (metaL m)) ++ metaL m := by unfold metaW; rw [if_pos h]
  have f1 : fourN (fourL (crcL (metaL m)) ++ metaL m) = crcL (metaL m) := fourN_fourL _ _ (crcL_lt _)
  have f2 : (fourL (crcL (metaL m)) ++ metaL m).drop 4 = metaL m := rfl
  have f3 : (fourL (crcL (metaL m)) ++ metaL m).length = 4 + (metaL m).length := by simp [fourL]; omega
  rw [e1]
  unfold readMetaL
  rw [f1, f2, f3, metS_metaL m hi hl h1 h2 h3, if_neg (by omega), if_neg (by omega), if_neg (by simp), if_neg (by simp)]
end Go.Proofs.YtocdlaoklagdoaaDoor
