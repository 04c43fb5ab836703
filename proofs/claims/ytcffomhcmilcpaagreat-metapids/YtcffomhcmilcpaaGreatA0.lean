/- An image of the cluster's metadata without memory: what each kind of record makes of it. -/
import Derived.Test.YtcffomhcmilcpaaGreatM0
namespace Go.Proofs.YtcffomhcmilcpaaGreat
set_option linter.unusedSimpArgs false
set_option linter.unusedVariables false

/-- A broker. -/
structure Br where
  life : Int
  up : Bool
/-- A topic. -/
structure Tp where
  name : ByteArray
  first : Int
  count : Int
/-- An image. -/
structure Im where
  applied : Int
  brs : List (Int × Br)
  tops : List Tp
  parts : List Pt
  eps : List Int
def Im.new : Im := ⟨0, [], [], [], []⟩
/-- A record. -/
structure Rc where
  kind : Int
  a : Int
  b : Int
  c : Int
  d : Int
  name : ByteArray
  text : ByteArray
  list : List Int
structure RcOk (r : Rc) : Prop where
  kind : I64 r.kind
  a : I64 r.a
  b : I64 r.b
  c : I64 r.c
  d : I64 r.d

abbrev BM := List (Int × Br)
def getB (bs : BM) (n : Int) : Option Br := (bs.find? (fun p => p.1 == n)).map (·.2)
def insB (x : Int × Br) : BM → BM
  | [] => [x]
  | y :: r => if x.1 < y.1 then x :: y :: r else y :: insB x r
def delB (bs : BM) (n : Int) : BM := bs.filter fun p => !(p.1 == n)
def putB (bs : BM) (n : Int) (b : Br) : BM := insB (n, b) (delB bs n)
def zeroB : Br := ⟨0, false⟩
def valB (bs : BM) (n : Int) : Br := (getB bs n).getD zeroB
def upL (bs : BM) : List Int := (bs.filter fun p => p.2.up).map (·.1)

def isOfB (c : UInt8) : Bool := (decide (97 ≤ c) && decide (c ≤ 122)) || (decide (48 ≤ c) && decide (c ≤ 57)) || c == 45
def nameB (s : ByteArray) : Bool := upB s.size 32 && s.data.toList.all isOfB
def sameN (s t : ByteArray) : Bool := s.toList == t.toList
def hasT (l : List Tp) (s : ByteArray) : Bool := l.any fun t => sameN t.name s

/-- What a decision makes of the parts, one by one. -/
def stepP (f : Pt → Pt × Int) (p : Pt) : Pt := if (f p).2 = 0 then (f p).1 else p
def putOffI (I : Im) (id : Int) : Im :=
  { I with brs := putB I.brs id ⟨(valB I.brs id).life, false⟩, parts := I.parts.map (stepP fun p => fenceP p id (upL (putB I.brs id ⟨(valB I.brs id).life, false⟩))) }
def registerI (I : Im) (r : Rc) : Im × Int × Int :=
  if !upB r.a 7 || !upB r.b 1000000000 then (I, 0, 1)
  else if (getB I.brs r.a).isSome && decide (r.b ≤ (valB I.brs r.a).life) then (I, 0, 13)
  else ((fun J : Im => { J with brs := putB J.brs r.a ⟨r.b, false⟩ }) (if (valB I.brs r.a).up then putOffI I r.a else I), r.a, 0)
def refusedI (I : Im) (r : Rc) (up : Bool) : Int :=
  if !upB r.a 7 then 1
  else if (getB I.brs r.a).isNone then 8
  else if r.b ≠ (valB I.brs r.a).life then 13
  else if (valB I.brs r.a).up = up then 19 else 0
def fenceI (I : Im) (r : Rc) : Im × Int × Int :=
  if refusedI I r false ≠ 0 then (I, 0, refusedI I r false) else (putOffI I r.a, r.a, 0)
def unfenceI (I : Im) (r : Rc) : Im × Int × Int :=
  if refusedI I r true ≠ 0 then (I, 0, refusedI I r true)
  else ({ I with brs := putB I.brs r.a ⟨r.b, true⟩, parts := I.parts.map (stepP fun p => backP p r.a) }, r.a, 0)
def roundL (l : List Int) (k n : Nat) : List Int := (List.range n).map fun i => (l[(k + i) % l.length]?).getD 0
def newP (id : Int) (reps : List Int) (least : Int) : Pt := ⟨id, headL reps, 1, 1, reps, reps, [], [], least⟩
def moreP (n : Nat) (up : List Int) (b : Nat) (c : Int) (k : Nat) : List Pt := (List.range k).map fun (i : Nat) => newP ((n : Int) + 1 + (i : Int)) (roundL up i b) c
def topicI (I : Im) (r : Rc) : Im × Int × Int :=
  if !nameB r.name || !upB r.a 16 || !upB r.b 5 || !upB r.c r.b then (I, 0, 1)
  else if hasT I.tops r.name then (I, 0, 9)
  else if 16 < (I.parts.length : Int) + r.a ∨ ((upL I.brs).length : Int) < r.b then (I, 0, 3)
  else ({ I with tops := I.tops ++ [⟨r.name, (I.parts.length : Int) + 1, r.a⟩], parts := I.parts ++ moreP I.parts.length (upL I.brs) r.b.toNat r.c r.a.toNat }, (I.parts.length : Int) + 1, 0)
def pidI (I : Im) (r : Rc) : Im × Int × Int :=
  if r.a < 0 then (I, 0, 1)
  else if (I.eps.length : Int) < r.a then (I, 0, 8)
  else if r.a = 0 then (if 1000 ≤ I.eps.length then (I, 0, 3) else ({ I with eps := I.eps ++ [0] }, (I.eps.length : Int) + 1, 0))
  else if 1000000000 ≤ (I.eps[r.a.toNat - 1]?).getD 0 then (I, 0, 20)
  else ({ I with eps := I.eps.set (r.a.toNat - 1) ((I.eps[r.a.toNat - 1]?).getD 0 + 1) }, (I.eps[r.a.toNat - 1]?).getD 0 + 1, 0)
def preferP (bs : BM) (p : Pt) : Pt × Int := if !(valB bs (headL p.reps)).up then (Pt.zero, 19) else electP p (headL p.reps)
def turnP (bs : BM) (r : Rc) (p : Pt) : Pt × Int :=
  if r.kind = 5 then alterP p r.b r.c r.d r.list (upL bs)
  else if r.kind = 6 then beginP p r.list (upL bs)
  else if r.kind = 7 then cancelP p (upL bs)
  else if r.kind = 10 then finishP p (upL bs)
  else preferP bs p
def takeI (ps : List Pt) (r : Pt × Int) : List Pt := if r.2 = 0 then ps.set (r.1.id - 1).toNat r.1 else ps
def turnI (I : Im) (r : Rc) : Im × Int × Int :=
  if !upB r.a I.parts.length then (I, 0, 8)
  else ({ I with parts := takeI I.parts (turnP I.brs r (I.parts[r.a.toNat - 1]?.getD Pt.zero)) }, (turnP I.brs r (I.parts[r.a.toNat - 1]?.getD Pt.zero)).1.ver, (turnP I.brs r (I.parts[r.a.toNat - 1]?.getD Pt.zero)).2)
def doI (I : Im) (r : Rc) : Im × Int × Int :=
  if r.kind = 1 then registerI I r
  else if r.kind = 2 then fenceI I r
  else if r.kind = 3 then unfenceI I r
  else if r.kind = 4 then topicI I r
  else if r.kind = 5 ∨ r.kind = 6 ∨ r.kind = 7 ∨ r.kind = 10 ∨ r.kind = 9 then turnI I r
  else if r.kind = 8 then pidI I r
  else (I, 0, 1)
def nextI (I : Im) : Im := { I with applied := I.applied + 1 }
def applyI (I : Im) (r : Rc) : Im × Int × Int := doI (nextI I) r

/-- How many partitions topics have. -/
def sumT : List Tp → Int
  | [] => 0
  | t :: r => t.count + sumT r
theorem sumT_append : ∀ l m : List Tp, sumT (l ++ m) = sumT l + sumT m
  | [], m => by simp [sumT]
  | t :: r, m => by simp only [List.cons_append, sumT, sumT_append r m]; omega
theorem sumT_len : ∀ l : List Tp, (∀ t ∈ l, 1 ≤ t.count) → (l.length : Int) ≤ sumT l
  | [], _ => by simp [sumT]
  | t :: r, h => by
    have h1 := h t (by simp)
    have h2 := sumT_len r (fun x hx => h x (by simp [hx]))
    simp only [sumT, List.length_cons]
    push_cast
    omega
/-- An image that may be. -/
structure ImOk (I : Im) : Prop where
  keys : I.brs.Pairwise (fun p q => p.1 < q.1)
  brs : ∀ p ∈ I.brs, (1 ≤ p.1 ∧ p.1 ≤ 7) ∧ 1 ≤ p.2.life ∧ p.2.life ≤ 1000000000
  parts : ∀ (i : Nat) p, I.parts[i]? = some p → RightP p ∧ p.id = (i : Int) + 1
  few : I.parts.length ≤ 16
  tops : sumT I.tops ≤ 16
  name : ∀ t ∈ I.tops, t.name.size ≤ 32
  nums : ∀ t ∈ I.tops, 1 ≤ t.first ∧ t.first ≤ 16 ∧ 1 ≤ t.count ∧ t.count ≤ 16
  eps : I.eps.length ≤ 1000
  epv : ∀ x ∈ I.eps, 0 ≤ x ∧ x ≤ 1000000000
  app : 0 ≤ I.applied ∧ I.applied ≤ 1000000000000

theorem ImOk.topsFew {I : Im} (h : ImOk I) : I.tops.length ≤ 16 := by
  have h1 := sumT_len I.tops (fun t ht => (h.nums t ht).2.2.1)
  have h2 := h.tops
  omega
theorem getB_mem {bs : BM} {n : Int} {b : Br} (h : getB bs n = some b) : (n, b) ∈ bs := by
  unfold getB at h
  obtain ⟨p, hp, rfl⟩ := Option.map_eq_some_iff.1 h
  have h1 := List.mem_of_find?_eq_some hp
  have h2 := List.find?_some hp
  simp at h2
  rw [← h2]
  exact h1
theorem mem_insB (x p : Int × Br) : ∀ bs : BM, p ∈ insB x bs ↔ p = x ∨ p ∈ bs
  | [] => by simp [insB]
  | y :: r => by
    unfold insB
    split
    · simp
    · simp [mem_insB x p r]
      constructor
      · rintro (h | h | h) <;> simp [h]
      · rintro (h | h | h) <;> simp [h]
theorem mem_putB (bs : BM) (n : Int) (b : Br) (p : Int × Br) : p ∈ putB bs n b ↔ p = (n, b) ∨ (p ∈ bs ∧ p.1 ≠ n) := by
  unfold putB delB
  rw [mem_insB]
  simp
theorem rise_insB (x : Int × Br) : ∀ bs : BM, bs.Pairwise (fun p q => p.1 < q.1) → (∀ p ∈ bs, p.1 ≠ x.1) → (insB x bs).Pairwise (fun p q => p.1 < q.1)
  | [], _, _ => by simp [insB]
  | y :: r, h, hx => by
    have h' := List.pairwise_cons.1 h
    unfold insB
    split
    · rename_i hlt
      refine List.Pairwise.cons (fun p hp => ?_) h
      rcases List.mem_cons.1 hp with rfl | hp
      · exact hlt
      · have := h'.1 p hp; omega
    · rename_i hlt
      refine List.Pairwise.cons (fun p hp => ?_) (rise_insB x r h'.2 (fun p hp => hx p (List.mem_cons_of_mem _ hp)))
      rcases (mem_insB x p r).1 hp with rfl | hp
      · have := hx y (by simp); omega
      · exact h'.1 p hp
theorem rise_putB {bs : BM} (h : bs.Pairwise (fun p q => p.1 < q.1)) (n : Int) (b : Br) : (putB bs n b).Pairwise (fun p q => p.1 < q.1) := by
  refine rise_insB _ _ (h.filter _) (fun p hp => ?_)
  have := (List.mem_filter.1 hp).2
  simpa using this
theorem getB_insB (x : Int × Br) (n : Int) : ∀ bs : BM, (∀ p ∈ bs, p.1 ≠ x.1) → getB (insB x bs) n = if x.1 = n then some x.2 else getB bs n
  | [], _ => by
    unfold insB getB
    by_cases h : x.1 = n
    · simp [h]
    · simp [h]
  | y :: r, hx => by
    have ih := getB_insB x n r (fun p hp => hx p (List.mem_cons_of_mem _ hp))
    have hy := hx y (by simp)
    unfold insB
    split
    · unfold getB
      by_cases h : x.1 = n
      · simp [List.find?_cons, h]
      · have : (x.1 == n) = false := by simp [h]
        simp [List.find?_cons, this, h]
    · unfold getB at ih ⊢
      by_cases h2 : y.1 = n
      · have h3 : ¬ x.1 = n := fun e => hy (by omega)
        simp [List.find?_cons, h2, h3]
      · have : (y.1 == n) = false := by simp [h2]
        simp only [List.find?_cons, this]
        exact ih
theorem getB_delB (bs : BM) (m n : Int) (h : m ≠ n) : getB (delB bs m) n = getB bs n := by
  unfold getB delB
  induction bs with
  | nil => rfl
  | cons y r ih =>
    by_cases h1 : y.1 = m
    · have h2 : (y.1 == n) = false := by simp; omega
      simp only [List.filter_cons, List.find?_cons, h1, h2]
      rw [← h1]
      simp only [beq_self_eq_true, Bool.not_true, Bool.false_eq_true, if_false, h2]
      rw [← ih, h1]
    · have h2 : (!(y.1 == m)) = true := by simp [h1]
      simp only [List.filter_cons, h2, if_true, List.find?_cons]
      cases y.1 == n
      · exact ih
      · rfl
theorem getB_putB (bs : BM) (m n : Int) (b : Br) : getB (putB bs m b) n = if m = n then some b else getB bs n := by
  unfold putB
  rw [getB_insB _ _ _ (fun p hp => by have := (List.mem_filter.1 hp).2; simpa using this)]
  by_cases h : m = n
  · simp [h]
  · simp only [h, if_false]
    exact getB_delB bs m n h
theorem keys_few {bs : BM} (hk : bs.Pairwise (fun p q => p.1 < q.1)) (hb : ∀ p ∈ bs, 1 ≤ p.1 ∧ p.1 ≤ 7) : bs.length ≤ 7 := by
  have := few_len 7 (bs.map (·.1)) (by
    have h1 : (bs.map (·.1)).Pairwise (· < ·) := List.pairwise_map.2 hk
    exact h1.imp (fun h => by omega)) (by
    intro x hx
    obtain ⟨p, hp, rfl⟩ := List.mem_map.1 hx
    exact hb p hp)
  simpa using this
theorem upL_len (bs : BM) : (upL bs).length ≤ bs.length := by
  unfold upL
  rw [List.length_map]
  exact List.length_filter_le _ _
theorem upL_ok {I : Im} (h : ImOk I) : (upL I.brs).Nodup ∧ ∀ x ∈ upL I.brs, 1 ≤ x ∧ x ≤ 7 := by
  constructor
  · have h1 : (upL I.brs).Pairwise (· < ·) := List.pairwise_map.2 (h.keys.filter _)
    exact h1.imp (fun h => by omega)
  · intro x hx
    obtain ⟨p, hp, rfl⟩ := List.mem_map.1 hx
    exact (h.brs p (List.mem_filter.1 hp).1).1
end Go.Proofs.YtcffomhcmilcpaaGreat
