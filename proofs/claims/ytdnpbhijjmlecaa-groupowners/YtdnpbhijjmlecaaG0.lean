/- Groups without memory: shares of partitions, a group's record, all groups, what a record does. -/
import Derived.WalkKit
namespace Go.Proofs.Ytdnpbhijjmlecaa
set_option linter.unusedSimpArgs false
set_option linter.unusedVariables false

def I64 (n : Int) : Prop := -9223372036854775808 ≤ n ∧ n ≤ 9223372036854775807
def hasB (l : List Int) (x : Int) : Bool := decide (x ∈ l)
theorem hasB_iff {l : List Int} {x : Int} : hasB l x = true ↔ x ∈ l := by simp [hasB]
theorem hasB_not {l : List Int} {x : Int} : hasB l x = false ↔ x ∉ l := by simp [hasB]

/-- A member: its id, the number of its last commit. -/
structure Mb where
  id : Int
  num : Int
structure Gr where
  gen : Int
  ever : Int
  mem : List Mb
  parts : List Int
  offs : List (Int × Int)
def Gr.zero : Gr := ⟨0, 0, [], [], []⟩
def idsL (x : Gr) : List Int := x.mem.map (·.id)
/-- Of n parts and k members, those of the member i: how many, and from where. -/
def shareN (n k i : Nat) : Nat := n / k + if i < n % k then 1 else 0
def fromN (n k : Nat) : Nat → Nat
  | 0 => 0
  | i + 1 => fromN n k i + shareN n k i
def shareL (l : List Int) (k i : Nat) : List Int := (l.drop (fromN l.length k i)).take (shareN l.length k i)
def placeN (ms : List Mb) (id : Int) : Option Nat := ms.findIdx? fun m => m.id == id
def hasM (x : Gr) (id : Int) : Bool := (placeN x.mem id).isSome
def partsOf (x : Gr) (id : Int) : List Int := shareL x.parts x.mem.length ((placeN x.mem id).getD 0)
def ownFrom (x : Gr) (part : Int) : Nat → List Mb → Int
  | _, [] => 0
  | i, m :: r => if hasB (shareL x.parts x.mem.length i) part then m.id else ownFrom x part (i + 1) r
def ownerI (x : Gr) (part : Int) : Int := ownFrom x part 0 x.mem
def getO (o : List (Int × Int)) (n : Int) : Option Int := (o.find? (fun p => p.1 == n)).map (·.2)
def valO (o : List (Int × Int)) (n : Int) : Int := (getO o n).getD 0
def offI (x : Gr) (part : Int) : Int := (getO x.offs part).getD (-1)
def insO (x : Int × Int) : List (Int × Int) → List (Int × Int)
  | [] => [x]
  | p :: r => if x.1 < p.1 then x :: p :: r else p :: insO x r
def delO (o : List (Int × Int)) (n : Int) : List (Int × Int) := o.filter fun p => !(p.1 == n)
def putO (o : List (Int × Int)) (n v : Int) : List (Int × Int) := insO (n, v) (delO o n)

/-- What is told: the error, the member, the generation, the offset, the parts. -/
structure Td where
  err : Int
  mem : Int
  gen : Int
  off : Int
  parts : List Int
def errT (e : Int) : Td := ⟨e, 0, 0, 0, []⟩
/-- A record. -/
structure Rc where
  kind : Int
  a : Int
  b : Int
  c : Int
  d : Int
  name : ByteArray
  text : ByteArray
  list : List Int
def Rc.key (m : Rc) : List UInt8 := m.name.data.toList
def RcOk (m : Rc) : Prop := I64 m.kind ∧ I64 m.a ∧ I64 m.b ∧ I64 m.c ∧ I64 m.d
def isOfB (c : UInt8) : Bool := decide ((97 ≤ c.toNat ∧ c.toNat ≤ 122) ∨ (48 ≤ c.toNat ∧ c.toNat ≤ 57) ∨ c.toNat = 45)
def nameB (s : ByteArray) : Bool := decide (1 ≤ s.size ∧ s.size ≤ 32) && s.data.toList.all isOfB
def riseB : Int → List Int → Bool
  | _, [] => true
  | last, x :: r => decide (last < x ∧ x ≤ 16) && riseB x r
def offB (n : Int) : Bool := decide (0 ≤ n ∧ n ≤ 1000000000)

/-- What each kind does to a group that is there. -/
def memE (x : Gr) (m : Rc) : Int := if hasM x m.a = false then 17 else if m.b ≠ x.gen then 18 else 0
def setNum (ms : List Mb) (i : Nat) (n : Int) : List Mb := ms.modify i fun m => { m with num := n }
def numOf (x : Gr) (id : Int) : Int := ((x.mem[(placeN x.mem id).getD 0]?).map (·.num)).getD (-1)
def oneB (l : List Int) : Bool := decide (l.length = 1) && offB (l.headD 0)
def comE (x : Gr) (m : Rc) : Int :=
  if memE x m ≠ 0 then memE x m
  else if offB m.d = false ∨ oneB m.list = false then 1
  else if m.list.headD 0 ≤ numOf x m.a then 12
  else if ownerI x m.c ≠ m.a then 19 else 0
def leaveI (x : Gr) (m : Rc) : Gr × Td :=
  match placeN x.mem m.a with
  | none => (x, errT 17)
  | some i => ({ x with mem := x.mem.eraseIdx i, gen := x.gen + 1 }, ⟨0, m.a, x.gen + 1, 0, []⟩)
def commitI (x : Gr) (m : Rc) : Gr × Td :=
  if comE x m ≠ 0 then (x, errT (comE x m))
  else ({ x with offs := putO x.offs m.c m.d, mem := setNum x.mem ((placeN x.mem m.a).getD 0) (m.list.headD 0) }, ⟨0, m.a, x.gen, m.d, []⟩)
def readI (x : Gr) (m : Rc) : Gr × Td := (x, ⟨0, 0, x.gen, offI x m.c, []⟩)
def syncI (x : Gr) (m : Rc) : Gr × Td := if memE x m ≠ 0 then (x, errT (memE x m)) else (x, ⟨0, m.a, x.gen, 0, partsOf x m.a⟩)
def oneI (x : Gr) (m : Rc) : Gr × Td :=
  if m.kind = 2 then leaveI x m else if m.kind = 3 then commitI x m else if m.kind = 6 then syncI x m else readI x m

/-- All groups, by names. -/
abbrev GL := List (List UInt8 × Gr)
structure Gs where
  gs : GL
  epoch : Int
def getG (gs : GL) (s : List UInt8) : Option Gr := (gs.find? (fun p => p.1 == s)).map (·.2)
def setG (gs : GL) (s : List UInt8) (x : Gr) : GL := gs.map fun p => if p.1 == s then (p.1, x) else p
def insG (y : List UInt8 × Gr) : GL → GL
  | [] => [y]
  | p :: r => if bytesBefore y.1 p.1 then y :: p :: r else p :: insG y r
def putG (gs : GL) (s : List UInt8) (x : Gr) : GL := if (getG gs s).isSome then setG gs s x else insG (s, x) gs
def foundG (gs : GL) (s : List UInt8) : Gr := (getG gs s).getD Gr.zero
def joinE (gs : GL) (m : Rc) : Int :=
  if nameB m.name = false ∨ m.a < 0 ∨ riseB 0 m.list = false then 1
  else if 0 < m.a ∧ (getG gs m.key).isSome = false then 8
  else if 0 < m.a ∧ hasM (foundG gs m.key) m.a = false then 17
  else if ((getG gs m.key).isSome = false ∧ 8 ≤ gs.length) ∨ (m.a = 0 ∧ 16 ≤ (foundG gs m.key).mem.length) ∨ 1000000 ≤ (foundG gs m.key).ever then 3
  else 0
def admitG (x : Gr) : Gr := { x with ever := x.ever + 1, mem := x.mem ++ [⟨x.ever + 1, -1⟩] }
def joinX (x : Gr) (m : Rc) : Gr := if m.a = 0 then admitG x else x
def joinD (x : Gr) (m : Rc) : Int := if m.a = 0 then x.ever + 1 else m.a
def joinG (x : Gr) (m : Rc) : Gr := { joinX x m with parts := m.list, gen := x.gen + 1 }
def joinT (x : Gr) (m : Rc) : Td := ⟨0, joinD x m, x.gen + 1, 0, partsOf (joinG x m) (joinD x m)⟩
def joinI (S : Gs) (m : Rc) : Gs × Td :=
  if joinE S.gs m ≠ 0 then (S, errT (joinE S.gs m))
  else ({ S with gs := putG S.gs m.key (joinG (foundG S.gs m.key) m) }, joinT (foundG S.gs m.key) m)
def askI (S : Gs) (m : Rc) : Gs × Td :=
  match getG S.gs m.key with
  | none => (S, errT 8)
  | some x => ({ S with gs := setG S.gs m.key (oneI x m).1 }, (oneI x m).2)
def epochI (S : Gs) (m : Rc) : Gs × Td := if m.a < S.epoch then (S, errT 13) else ({ S with epoch := m.a }, ⟨0, 0, m.a, 0, []⟩)
def applyI (S : Gs) (m : Rc) : Gs × Td :=
  if m.kind = 1 then joinI S m
  else if m.kind = 2 ∨ m.kind = 3 ∨ m.kind = 4 ∨ m.kind = 6 then askI S m
  else if m.kind = 5 then epochI S m else (S, errT 1)

/-- What is kept. -/
structure GrOk (N : Nat) (x : Gr) : Prop where
  rise : x.mem.Pairwise fun a b => a.id < b.id
  mems : ∀ m ∈ x.mem, 1 ≤ m.id ∧ m.id ≤ x.ever ∧ -1 ≤ m.num ∧ m.num ≤ 1000000000
  few : x.mem.length ≤ 16
  parts : riseB 0 x.parts = true
  keys : x.offs.Pairwise fun a b => a.1 < b.1
  offs : ∀ p ∈ x.offs, 1 ≤ p.1 ∧ p.1 ≤ 16 ∧ 0 ≤ p.2 ∧ p.2 ≤ 1000000000
  gen : 0 ≤ x.gen ∧ x.gen ≤ N
  ever : 0 ≤ x.ever ∧ x.ever ≤ 1000000
structure GsOk (N : Nat) (S : Gs) : Prop where
  names : S.gs.Pairwise fun a b => a.1 ≠ b.1
  few : S.gs.length ≤ 8
  each : ∀ p ∈ S.gs, GrOk N p.2 ∧ p.1.length ≤ 32
  epoch : I64 S.epoch

theorem rise_mem : ∀ (l : List Int) (a : Int), riseB a l = true → ∀ x ∈ l, a < x ∧ x ≤ 16
  | [], _, _, x, hx => by cases hx
  | y :: r, a, h, x, hx => by
    simp only [riseB, Bool.and_eq_true, decide_eq_true_eq] at h
    rcases List.mem_cons.1 hx with rfl | hx
    · exact h.1
    · have := rise_mem r y h.2 x hx
      omega
theorem rise_nodup : ∀ (l : List Int) (a : Int), riseB a l = true → l.Nodup
  | [], _, _ => List.nodup_nil
  | y :: r, a, h => by
    simp only [riseB, Bool.and_eq_true, decide_eq_true_eq] at h
    refine List.nodup_cons.2 ⟨fun hm => ?_, rise_nodup r y h.2⟩
    have := rise_mem r y h.2 y hm
    omega
theorem rise_len : ∀ (l : List Int) (a : Int), riseB a l = true → a ≤ 16 → (l.length : Int) ≤ 16 - a
  | [], a, _, ha => by simp; omega
  | y :: r, a, h, ha => by
    simp only [riseB, Bool.and_eq_true, decide_eq_true_eq] at h
    have := rise_len r y h.2 h.1.2
    simp only [List.length_cons]
    push_cast
    omega
theorem GrOk.plen {N : Nat} {x : Gr} (h : GrOk N x) : x.parts.length ≤ 16 := by have := rise_len x.parts 0 h.parts (by omega); omega
theorem GrOk.p64 {N : Nat} {x : Gr} (h : GrOk N x) : ∀ p ∈ x.parts, I64 p := fun p hp => by have := rise_mem x.parts 0 h.parts p hp; unfold I64; omega
theorem zeroOk (N : Nat) : GrOk N Gr.zero := ⟨List.Pairwise.nil, fun m hm => (by cases hm), by simp [Gr.zero], rfl, List.Pairwise.nil, fun m hm => (by cases hm), by simp [Gr.zero], by simp [Gr.zero]⟩
theorem GrOk.mono {N M : Nat} {x : Gr} (h : GrOk N x) (hm : N ≤ M) : GrOk M x := ⟨h.rise, h.mems, h.few, h.parts, h.keys, h.offs, by have := h.gen; omega, h.ever⟩

theorem place_some {ms : List Mb} {id : Int} {i : Nat} (h : placeN ms id = some i) : ∃ m, ms[i]? = some m ∧ m.id = id ∧ i < ms.length := by
  unfold placeN at h
  obtain ⟨h1, h2, _⟩ := List.findIdx?_eq_some_iff_getElem.1 h
  exact ⟨ms[i], by simp [h1], by simpa using h2, h1⟩
theorem place_none {ms : List Mb} {id : Int} : placeN ms id = none ↔ ∀ m ∈ ms, m.id ≠ id := by
  unfold placeN
  rw [List.findIdx?_eq_none_iff]
  simp
theorem place_snoc (ms : List Mb) (m : Mb) (h : ∀ x ∈ ms, x.id ≠ m.id) : placeN (ms ++ [m]) m.id = some ms.length := by
  have h0 := place_none.2 h
  unfold placeN at h0 ⊢
  rw [List.findIdx?_append, h0]
  simp
theorem mem_insO (x p : Int × Int) : ∀ o : List (Int × Int), p ∈ insO x o ↔ p = x ∨ p ∈ o
  | [] => by simp [insO]
  | y :: r => by
    unfold insO
    split
    · simp
    · simp [mem_insO x p r]
      constructor
      · rintro (h | h | h) <;> simp [h]
      · rintro (h | h | h) <;> simp [h]
theorem mem_putO (o : List (Int × Int)) (n v : Int) (p : Int × Int) : p ∈ putO o n v ↔ p = (n, v) ∨ (p ∈ o ∧ p.1 ≠ n) := by
  unfold putO delO
  rw [mem_insO]
  simp
theorem rise_insO (x : Int × Int) : ∀ o : List (Int × Int), o.Pairwise (fun a b => a.1 < b.1) → (∀ p ∈ o, p.1 ≠ x.1) → (insO x o).Pairwise (fun a b => a.1 < b.1)
  | [], _, _ => by simp [insO]
  | y :: r, h, hx => by
    have h' := List.pairwise_cons.1 h
    unfold insO
    split
    · rename_i hlt
      refine List.pairwise_cons.2 ⟨fun p hp => ?_, h⟩
      rcases List.mem_cons.1 hp with rfl | hp
      · exact hlt
      · have := h'.1 p hp; omega
    · refine List.pairwise_cons.2 ⟨fun p hp => ?_, rise_insO x r h'.2 (fun p hp => hx p (List.mem_cons_of_mem _ hp))⟩
      rcases (mem_insO _ _ _).1 hp with rfl | hp
      · have := hx y (List.mem_cons_self ..); omega
      · exact h'.1 p hp
theorem rise_putO {o : List (Int × Int)} (h : o.Pairwise (fun a b => a.1 < b.1)) (n v : Int) : (putO o n v).Pairwise (fun a b => a.1 < b.1) := by
  unfold putO delO
  refine rise_insO _ _ (h.filter _) fun p hp => ?_
  have := (List.mem_filter.1 hp).2
  simpa using this
theorem keys_few : ∀ (n : Nat) (o : List (Int × Int)), o.Pairwise (fun a b => a.1 < b.1) → (∀ p ∈ o, 17 - (n : Int) ≤ p.1 ∧ p.1 ≤ 16) → o.length ≤ n
  | n, [], _, _ => by simp
  | 0, p :: r, _, h => by have := h p (List.mem_cons_self ..); omega
  | n + 1, p :: r, h, hb => by
    have h' := List.pairwise_cons.1 h
    have := keys_few n r h'.2 (fun x hx => by have := h'.1 x hx; have := hb p (List.mem_cons_self ..); have := hb x (List.mem_cons_of_mem _ hx); push_cast at *; omega)
    simp only [List.length_cons]
    omega
theorem GrOk.olen {N : Nat} {x : Gr} (h : GrOk N x) : x.offs.length ≤ 16 := keys_few 16 x.offs h.keys (fun p hp => by have := h.offs p hp; omega)
theorem find_insO (x : Int × Int) (n : Int) : ∀ o : List (Int × Int), (∀ p ∈ o, p.1 ≠ x.1) → (insO x o).find? (fun p => p.1 == n) = if x.1 == n then some x else o.find? (fun p => p.1 == n)
  | [], _ => by simp [insO, List.find?_cons]; split <;> simp_all
  | y :: r, h => by
    have ih := find_insO x n r (fun p hp => h p (List.mem_cons_of_mem _ hp))
    have hy := h y (List.mem_cons_self ..)
    unfold insO
    split
    · simp only [List.find?_cons]
      cases x.1 == n <;> simp
    · simp only [List.find?_cons, ih]
      cases hn : x.1 == n
      · simp
      · simp only [beq_iff_eq] at hn
        rw [show (y.1 == n) = false by simp; omega]
theorem get_putO (o : List (Int × Int)) (n v k : Int) : getO (putO o n v) k = if n = k then some v else getO o k := by
  unfold getO putO
  rw [find_insO _ _ _ (fun p hp => by have := (List.mem_filter.1 hp).2; simpa using this)]
  by_cases h : n = k
  · subst h; simp
  · have h' : (n == k) = false := by simpa using h
    simp only [h', Bool.false_eq_true, if_false, if_neg h]
    unfold delO
    rw [List.find?_filter]
    congr 2
    funext p
    by_cases hp : p.1 = k
    · have : p.1 ≠ n := fun e => h (e.symm.trans hp)
      simp [hp, this]; omega
    · simp [hp]
end Go.Proofs.Ytdnpbhijjmlecaa
