/- Groups without memory: shares of partitions, a group's record, all groups, what a record does. -/
import Derived.WalkKit
import Derived.Test.YtdnpbhijjmlecaaRows
import Derived.WalkSpells
import Derived.WalkLawsBesides
import Derived.Deep.LoopGhost
import Derived.Maps.AppendAt
import Derived.Maps.Range
import Derived.Deep.QuietTactic
import Derived.BigQuiet
import Derived.Lib.SliceRun
import Derived.Laws.AppendOwnNone
import Derived.Maps.OwnSet
import Derived.Maps.RangeWalk
import Derived.Maps.Ext
import Derived.Deep.RegionHeld3
import Derived.Deep.AppendLies
namespace Go.Proofs.Ytdnpbhijjmlecaa
set_option linter.unusedSimpArgs false
set_option linter.unusedVariables false

def I64 (n : Int) : Prop := -9223372036854775808 ≤ n ∧ n ≤ 9223372036854775807
def hasB (l : List Int) (x : Int) : Bool := decide (x ∈ l)
theorem hasB_iff {l : List Int} {x : Int} : hasB l x = true ↔ x ∈ l := by simp [hasB]
theorem hasB_not {l : List Int} {x : Int} : hasB l x = false ↔ x ∉ l := by simp [hasB]

/-- A member: its id, the number of its last commit. -/
structure Mb where
  id : Int
  num : Int
structure Gr where
  gen : Int
  ever : Int
  mem : List Mb
  parts : List Int
  offs : List (Int × Int)
def Gr.zero : Gr := ⟨0, 0, [], [], []⟩
def idsL (x : Gr) : List Int := x.mem.map (·.id)
/-- Of n parts and k members, those of the member i: how many, and from where. -/
def shareN (n k i : Nat) : Nat := n / k + if i < n % k then 1 else 0
def fromN (n k : Nat) : Nat → Nat
  | 0 => 0
  | i + 1 => fromN n k i + shareN n k i
def shareL (l : List Int) (k i : Nat) : List Int := (l.drop (fromN l.length k i)).take (shareN l.length k i)
def placeN (ms : List Mb) (id : Int) : Option Nat := ms.findIdx? fun m => m.id == id
def hasM (x : Gr) (id : Int) : Bool := (placeN x.mem id).isSome
def partsOf (x : Gr) (id : Int) : List Int := shareL x.parts x.mem.length ((placeN x.mem id).getD 0)
def ownFrom (x : Gr) (part : Int) : Nat → List Mb → Int
  | _, [] => 0
  | i, m :: r => if hasB (shareL x.parts x.mem.length i) part then m.id else ownFrom x part (i + 1) r
def ownerI (x : Gr) (part : Int) : Int := ownFrom x part 0 x.mem
def getO (o : List (Int × Int)) (n : Int) : Option Int := (o.find? (fun p => p.1 == n)).map (·.2)
def valO (o : List (Int × Int)) (n : Int) : Int := (getO o n).getD 0
def offI (x : Gr) (part : Int) : Int := (getO x.offs part).getD (-1)
def insO (x : Int × Int) : List (Int × Int) → List (Int × Int)
  | [] => [x]
  | p :: r => if x.1 < p.1 then x :: p :: r else p :: insO x r
def delO (o : List (Int × Int)) (n : Int) : List (Int × Int) := o.filter fun p => !(p.1 == n)
def putO (o : List (Int × Int)) (n v : Int) : List (Int × Int) := insO (n, v) (delO o n)

/-- What is told: the error, the member, the generation, the offset, the parts. -/
structure Td where
  err : Int
  mem : Int
  gen : Int
  off : Int
  parts : List Int
def errT (e : Int) : Td := ⟨e, 0, 0, 0, []⟩
/-- A record. -/
structure Rc where
  kind : Int
  a : Int
  b : Int
  c : Int
  d : Int
  name : ByteArray
  text : ByteArray
  list : List Int
def Rc.key (m : Rc) : List UInt8 := m.name.data.toList
def RcOk (m : Rc) : Prop := I64 m.kind ∧ I64 m.a ∧ I64 m.b ∧ I64 m.c ∧ I64 m.d
def isOfB (c : UInt8) : Bool := decide ((97 ≤ c.toNat ∧ c.toNat ≤ 122) ∨ (48 ≤ c.toNat ∧ c.toNat ≤ 57) ∨ c.toNat = 45)
def nameB (s : ByteArray) : Bool := decide (1 ≤ s.size ∧ s.size ≤ 32) && s.data.toList.all isOfB
def riseB : Int → List Int → Bool
  | _, [] => true
  | last, x :: r => decide (last < x ∧ x ≤ 16) && riseB x r
def offB (n : Int) : Bool := decide (0 ≤ n ∧ n ≤ 1000000000)

/-- What each kind does to a group that is there. -/
def memE (x : Gr) (m : Rc) : Int := if hasM x m.a = false then 17 else if m.b ≠ x.gen then 18 else 0
def setNum (ms : List Mb) (i : Nat) (n : Int) : List Mb := ms.modify i fun m => { m with num := n }
def numOf (x : Gr) (id : Int) : Int := ((x.mem[(placeN x.mem id).getD 0]?).map (·.num)).getD (-1)
def oneB (l : List Int) : Bool := decide (l.length = 1) && offB (l.headD 0)
def comE (x : Gr) (m : Rc) : Int :=
  if memE x m ≠ 0 then memE x m
  else if offB m.d = false ∨ oneB m.list = false then 1
  else if m.list.headD 0 ≤ numOf x m.a then 12
  else if ownerI x m.c ≠ m.a then 19 else 0
def leaveI (x : Gr) (m : Rc) : Gr × Td :=
  match placeN x.mem m.a with
  | none => (x, errT 17)
  | some i => ({ x with mem := x.mem.eraseIdx i, gen := x.gen + 1 }, ⟨0, m.a, x.gen + 1, 0, []⟩)
def commitI (x : Gr) (m : Rc) : Gr × Td :=
  if comE x m ≠ 0 then (x, errT (comE x m))
  else ({ x with offs := putO x.offs m.c m.d, mem := setNum x.mem ((placeN x.mem m.a).getD 0) (m.list.headD 0) }, ⟨0, m.a, x.gen, m.d, []⟩)
def readI (x : Gr) (m : Rc) : Gr × Td := (x, ⟨0, 0, x.gen, offI x m.c, []⟩)
def syncI (x : Gr) (m : Rc) : Gr × Td := if memE x m ≠ 0 then (x, errT (memE x m)) else (x, ⟨0, m.a, x.gen, 0, partsOf x m.a⟩)
def oneI (x : Gr) (m : Rc) : Gr × Td :=
  if m.kind = 2 then leaveI x m else if m.kind = 3 then commitI x m else if m.kind = 6 then syncI x m else readI x m

/-- All groups, by names. -/
abbrev GL := List (List UInt8 × Gr)
structure Gs where
  gs : GL
  epoch : Int
def getG (gs : GL) (s : List UInt8) : Option Gr := (gs.find? (fun p => p.1 == s)).map (·.2)
def setG (gs : GL) (s : List UInt8) (x : Gr) : GL := gs.map fun p => if p.1 == s then (p.1, x) else p
def insG (y : List UInt8 × Gr) : GL → GL
  | [] => [y]
  | p :: r => if bytesBefore y.1 p.1 then y :: p :: r else p :: insG y r
def putG (gs : GL) (s : List UInt8) (x : Gr) : GL := if (getG gs s).isSome then setG gs s x else insG (s, x) gs
def foundG (gs : GL) (s : List UInt8) : Gr := (getG gs s).getD Gr.zero
def joinE (gs : GL) (m : Rc) : Int :=
  if nameB m.name = false ∨ m.a < 0 ∨ riseB 0 m.list = false then 1
  else if 0 < m.a ∧ (getG gs m.key).isSome = false then 8
  else if 0 < m.a ∧ hasM (foundG gs m.key) m.a = false then 17
  else if ((getG gs m.key).isSome = false ∧ 8 ≤ gs.length) ∨ (m.a = 0 ∧ 16 ≤ (foundG gs m.key).mem.length) ∨ 1000000 ≤ (foundG gs m.key).ever then 3
  else 0
def admitG (x : Gr) : Gr := { x with ever := x.ever + 1, mem := x.mem ++ [⟨x.ever + 1, -1⟩] }
def joinX (x : Gr) (m : Rc) : Gr := if m.a = 0 then admitG x else x
def joinD (x : Gr) (m : Rc) : Int := if m.a = 0 then x.ever + 1 else m.a
def joinG (x : Gr) (m : Rc) : Gr := { joinX x m with parts := m.list, gen := x.gen + 1 }
def joinT (x : Gr) (m : Rc) : Td := ⟨0, joinD x m, x.gen + 1, 0, partsOf (joinG x m) (joinD x m)⟩
def joinI (S : Gs) (m : Rc) : Gs × Td :=
  if joinE S.gs m ≠ 0 then (S, errT (joinE S.gs m))
  else ({ S with gs := putG S.gs m.key (joinG (foundG S.gs m.key) m) }, joinT (foundG S.gs m.key) m)
def askI (S : Gs) (m : Rc) : Gs × Td :=
  match getG S.gs m.key with
  | none => (S, errT 8)
  | some x => ({ S with gs := setG S.gs m.key (oneI x m).1 }, (oneI x m).2)
def epochI (S : Gs) (m : Rc) : Gs × Td := if m.a < S.epoch then (S, errT 13) else ({ S with epoch := m.a }, ⟨0, 0, m.a, 0, []⟩)
def applyI (S : Gs) (m : Rc) : Gs × Td :=
  if m.kind = 1 then joinI S m
  else if m.kind = 2 ∨ m.kind = 3 ∨ m.kind = 4 ∨ m.kind = 6 then askI S m
  else if m.kind = 5 then epochI S m else (S, errT 1)

/-- What is kept. -/
structure GrOk (N : Nat) (x : Gr) : Prop where
  rise : x.mem.Pairwise fun a b => a.id < b.id
  mems : ∀ m ∈ x.mem, 1 ≤ m.id ∧ m.id ≤ x.ever ∧ -1 ≤ m.num ∧ m.num ≤ 1000000000
  few : x.mem.length ≤ 16
  parts : riseB 0 x.parts = true
  keys : x.offs.Pairwise fun a b => a.1 < b.1
  offs : ∀ p ∈ x.offs, 1 ≤ p.1 ∧ p.1 ≤ 16 ∧ 0 ≤ p.2 ∧ p.2 ≤ 1000000000
  gen : 0 ≤ x.gen ∧ x.gen ≤ N
  ever : 0 ≤ x.ever ∧ x.ever ≤ 1000000
structure GsOk (N : Nat) (S : Gs) : Prop where
  names : S.gs.Pairwise fun a b => a.1 ≠ b.1
  few : S.gs.length ≤ 8
  each : ∀ p ∈ S.gs, GrOk N p.2 ∧ p.1.length ≤ 32
  epoch : I64 S.epoch

theorem rise_mem : ∀ (l : List Int) (a : Int), riseB a l = true → ∀ x ∈ l, a < x ∧ x ≤ 16
  | [], _, _, x, hx => by cases hx
  | y :: r, a, h, x, hx => by
    simp only [riseB, Bool.and_eq_true, decide_eq_true_eq] at h
    rcases List.mem_cons.1 hx with rfl | hx
    · exact h.1
    · have := rise_mem r y h.2 x hx
      omega
theorem rise_nodup : ∀ (l : List Int) (a : Int), riseB a l = true → l.Nodup
  | [], _, _ => List.nodup_nil
  | y :: r, a, h => by
    simp only [riseB, Bool.and_eq_true, decide_eq_true_eq] at h
    refine List.nodup_cons.2 ⟨fun hm => ?_, rise_nodup r y h.2⟩
    have := rise_mem r y h.2 y hm
    omega
theorem rise_len : ∀ (l : List Int) (a : Int), riseB a l = true → a ≤ 16 → (l.length : Int) ≤ 16 - a
  | [], a, _, ha => by simp; omega
  | y :: r, a, h, ha => by
    simp only [riseB, Bool.and_eq_true, decide_eq_true_eq] at h
    have := rise_len r y h.2 h.1.2
    simp only [List.length_cons]
    push_cast
    omega
theorem GrOk.plen {N : Nat} {x : Gr} (h : GrOk N x) : x.parts.length ≤ 16 := by have := rise_len x.parts 0 h.parts (by omega); omega
theorem GrOk.p64 {N : Nat} {x : Gr} (h : GrOk N x) : ∀ p ∈ x.parts, I64 p := fun p hp => by have := rise_mem x.parts 0 h.parts p hp; unfold I64; omega
theorem zeroOk (N : Nat) : GrOk N Gr.zero := ⟨List.Pairwise.nil, fun m hm => (by cases hm), by simp [Gr.zero], rfl, List.Pairwise.nil, fun m hm => (by cases hm), by simp [Gr.zero], by simp [Gr.zero]⟩
theorem GrOk.mono {N M : Nat} {x : Gr} (h : GrOk N x) (hm : N ≤ M) : GrOk M x := ⟨h.rise, h.mems, h.few, h.parts, h.keys, h.offs, by have := h.gen; omega, h.ever⟩

theorem place_some {ms : List Mb} {id : Int} {i : Nat} (h : placeN ms id = some i) : ∃ m, ms[i]? = some m ∧ m.id = id ∧ i < ms.length := by
  unfold placeN at h
  obtain ⟨h1, h2, _⟩ := List.findIdx?_eq_some_iff_getElem.1 h
  exact ⟨ms[i], by simp [h1], by simpa using h2, h1⟩
theorem place_none {ms : List Mb} {id : Int} : placeN ms id = none ↔ ∀ m ∈ ms, m.id ≠ id := by
  unfold placeN
  rw [List.findIdx?_eq_none_iff]
  simp
theorem place_snoc (ms : List Mb) (m : Mb) (h : ∀ x ∈ ms, x.id ≠ m.id) : placeN (ms ++ [m]) m.id = some ms.length := by
  have h0 := place_none.2 h
  unfold placeN at h0 ⊢
  rw [List.findIdx?_append, h0]
  simp
theorem mem_insO (x p : Int × Int) : ∀ o : List (Int × Int), p ∈ insO x o ↔ p = x ∨ p ∈ o
  | [] => by simp [insO]
  | y :: r => by
    unfold insO
    split
    · simp
    · simp [mem_insO x p r]
      constructor
      · rintro (h | h | h) <;> simp [h]
      · rintro (h | h | h) <;> simp [h]
theorem mem_putO (o : List (Int × Int)) (n v : Int) (p : Int × Int) : p ∈ putO o n v ↔ p = (n, v) ∨ (p ∈ o ∧ p.1 ≠ n) := by
  unfold putO delO
  rw [mem_insO]
  simp
theorem rise_insO (x : Int × Int) : ∀ o : List (Int × Int), o.Pairwise (fun a b => a.1 < b.1) → (∀ p ∈ o, p.1 ≠ x.1) → (insO x o).Pairwise (fun a b => a.1 < b.1)
  | [], _, _ => by simp [insO]
  | y :: r, h, hx => by
    have h' := List.pairwise_cons.1 h
    unfold insO
    split
    · rename_i hlt
      refine List.pairwise_cons.2 ⟨fun p hp => ?_, h⟩
      rcases List.mem_cons.1 hp with rfl | hp
      · exact hlt
      · have := h'.1 p hp; omega
    · refine List.pairwise_cons.2 ⟨fun p hp => ?_, rise_insO x r h'.2 (fun p hp => hx p (List.mem_cons_of_mem _ hp))⟩
      rcases (mem_insO _ _ _).1 hp with rfl | hp
      · have := hx y (List.mem_cons_self ..); omega
      · exact h'.1 p hp
theorem rise_putO {o : List (Int × Int)} (h : o.Pairwise (fun a b => a.1 < b.1)) (n v : Int) : (putO o n v).Pairwise (fun a b => a.1 < b.1) := by
  unfold putO delO
  refine rise_insO _ _ (h.filter _) fun p hp => ?_
  have := (List.mem_filter.1 hp).2
  simpa using this
theorem keys_few : ∀ (n : Nat) (o : List (Int × Int)), o.Pairwise (fun a b => a.1 < b.1) → (∀ p ∈ o, 17 - (n : Int) ≤ p.1 ∧ p.1 ≤ 16) → o.length ≤ n
  | n, [], _, _ => by simp
  | 0, p :: r, _, h => by have := h p (List.mem_cons_self ..); omega
  | n + 1, p :: r, h, hb => by
    have h' := List.pairwise_cons.1 h
    have := keys_few n r h'.2 (fun x hx => by have := h'.1 x hx; have := hb p (List.mem_cons_self ..); have := hb x (List.mem_cons_of_mem _ hx); push_cast at *; omega)
    simp only [List.length_cons]
    omega
theorem GrOk.olen {N : Nat} {x : Gr} (h : GrOk N x) : x.offs.length ≤ 16 := keys_few 16 x.offs h.keys (fun p hp => by have := h.offs p hp; omega)
theorem find_insO (x : Int × Int) (n : Int) : ∀ o : List (Int × Int), (∀ p ∈ o, p.1 ≠ x.1) → (insO x o).find? (fun p => p.1 == n) = if x.1 == n then some x else o.find? (fun p => p.1 == n)
  | [], _ => by simp [insO, List.find?_cons]; split <;> simp_all
  | y :: r, h => by
    have ih := find_insO x n r (fun p hp => h p (List.mem_cons_of_mem _ hp))
    have hy := h y (List.mem_cons_self ..)
    unfold insO
    split
    · simp only [List.find?_cons]
      cases x.1 == n <;> simp
    · simp only [List.find?_cons, ih]
      cases hn : x.1 == n
      · simp
      · simp only [beq_iff_eq] at hn
        rw [show (y.1 == n) = false by simp; omega]
theorem get_putO (o : List (Int × Int)) (n v k : Int) : getO (putO o n v) k = if n = k then some v else getO o k := by
  unfold getO putO
  rw [find_insO _ _ _ (fun p hp => by have := (List.mem_filter.1 hp).2; simpa using this)]
  by_cases h : n = k
  · subst h; simp
  · have h' : (n == k) = false := by simpa using h
    simp only [h', Bool.false_eq_true, if_false, if_neg h]
    unfold delO
    rw [List.find?_filter]
    congr 2
    funext p
    by_cases hp : p.1 = k
    · have : p.1 ≠ n := fun e => h (e.symm.trans hp)
      simp [hp, this]; omega
    · simp [hp]
end Go.Proofs.Ytdnpbhijjmlecaa

/- Lists of numbers in memory; Index, Contains, Clone. -/
namespace Go.Proofs.Ytdnpbhijjmlecaa
open Go.RowKit Go.Maps
set_option linter.unusedSimpArgs false
set_option linter.unusedVariables false
set_option maxRecDepth 100000

theorem hid {p : Prop} (h : p) : Hid p := h
theorem ret_int {k : IntKind} {a b : Int} (h : a = b) : Ending.returned (.int k a) = .returned (.int k b) := by rw [h]
theorem ret_bool {a b : Bool} (h : a = b) : Ending.returned (.bool a) = .returned (.bool b) := by rw [h]
theorem cell_blk {w : World} {q : Nat} {cs : Array Value} {T : TypeId} {mk : Nat × Nat} (h : w.heap[q]? = some (.cells cs T mk)) (j : Nat) (u : Value) (hu : cs[j]? = some u) : w.cell? ⟨q, j, none⟩ = some u := by
  simp [World.cell?, h, hu]
theorem kept_cell {W W' : World} (hb : Below W.heap.size W W') {p : Addr} {u : Value} (hu : W.cell? p = some u) : W'.cell? p = some u := (World.cell?_of_block (hb.block p.block (World.block_lt_of_cell? W _ hu))).trans hu

/-- A slice of numbers that is there. -/
structure IL (w : World) (v : Value) (l : List Int) : Prop where
  shape : ∃ a cap, v = .slice a l.length cap ∧ l.length ≤ cap ∧ cap ≤ maxLen ∧ (a = none → cap = 0) ∧ (l ≠ [] → ∃ b off, a = some ⟨b, off, none⟩ ∧ b < w.heap.size ∧ ∀ i (h : i < l.length), w.cell? ⟨b, off + i, none⟩ = some (.int .i64 l[i]))
  ok : ∀ x ∈ l, I64 x
  few : l.length ≤ 17592186044415
theorem IL.under {w w' : World} {v : Value} {l : List Int} (h : IL w v l) (hb : Below w.heap.size w w') : IL w' v l := by
  obtain ⟨⟨a, cap, e, h1, h2, h3, h4⟩, h5, h6⟩ := h
  refine ⟨⟨a, cap, e, h1, h2, h3, fun hn => ?_⟩, h5, h6⟩
  obtain ⟨b, off, e1, e2, e3⟩ := h4 hn
  exact ⟨b, off, e1, Nat.lt_of_lt_of_le e2 hb.size, fun i hi => kept_cell hb (e3 i hi)⟩
theorem IL.nil (w : World) : IL w (.slice none 0 0) [] := ⟨⟨none, 0, rfl, Nat.le_refl _, Nat.zero_le _, fun _ => rfl, fun h => absurd rfl h⟩, (fun x hx => by cases hx), by simp⟩
theorem IL.len {w : World} {v : Value} {l : List Int} (h : IL w v l) : l.length ≤ maxLen := by
  have := h.few
  unfold maxLen
  omega

/-- Where a list lies. -/
def In (X : Nat → Prop) (v : Value) (l : List Int) : Prop := l ≠ [] → ∀ b off n c, v = .slice (some ⟨b, off, none⟩) n c → X b
theorem In.mono {X Y : Nat → Prop} {v : Value} {l : List Int} (h : In X v l) (hm : ∀ b, X b → Y b) : In Y v l := fun hn b off n c e => hm b (h hn b off n c e)
theorem In.nil (X : Nat → Prop) (v : Value) : In X v [] := fun h => absurd rfl h
theorem IL.old {w : World} {v : Value} {l : List Int} (h : IL w v l) : In (fun b => b < w.heap.size) v l := by
  intro hn b off n c e
  obtain ⟨⟨a, cap, e1, h1, h2, h3, h4⟩, h5, h6⟩ := h
  obtain ⟨b', off', e2, e3, _⟩ := h4 hn
  subst e2
  rw [e] at e1
  cases e1
  exact e3
theorem IL.off {w w' : World} {v : Value} {l : List Int} {q : Nat} (h : IL w v l) (hq : In (fun b => b ≠ q) v l) (hb : ∀ b, b ≠ q → w'.heap[b]? = w.heap[b]?) (hs : w.heap.size ≤ w'.heap.size) : IL w' v l := by
  obtain ⟨⟨a, cap, rfl, h1, h2, h3, h4⟩, h5, h6⟩ := h
  refine ⟨⟨a, cap, rfl, h1, h2, h3, fun hn => ?_⟩, h5, h6⟩
  obtain ⟨b, off, rfl, e2, e3⟩ := h4 hn
  exact ⟨b, off, rfl, Nat.lt_of_lt_of_le e2 hs, fun i hi => (World.cell?_of_block (a := ⟨b, off + i, none⟩) (hb b (hq hn b off _ _ rfl))).trans (e3 i hi)⟩

set_option maxHeartbeats 1600000 in
theorem index_any {w : World} {v : Value} {l : List Int} (h : IL w v l) (x : Int) (hx : I64 x) : Calls Try.prog 54 #[v, .int .i64 x] w fun e w' => (∃ r : Int, e = .returned (.int .i64 r) ∧ (hasB l x = true → 0 ≤ r) ∧ (hasB l x = false → r = -1)) ∧ w = w' := by
  have HI := hid h
  obtain ⟨⟨a, cap, rfl, hcap, hcm, hnn, hat⟩, hok, hfew⟩ := h
  have HA := hid hat
  have HOK := hid hok
  have hlen : l.length ≤ 9223372036854775807 := by unfold maxLen at hcm; omega
  clear hat hok hnn hcap hcm
  go_enter Try.func54, Try.ntmps54
  go_wp2_with fail
  go_loopg [8] l.length (fun kx s8 wr => ∃ k : Nat, k ≤ l.length ∧ l.length - k ≤ kx ∧ s8 = .int .i64 (k : Int) ∧ Hid (x ∉ l.take k) ∧ wr = w)
  case atStart => exact ⟨0, Nat.zero_le _, by omega, rfl, by show _ ∉ _; simp, rfl⟩
  case round =>
    obtain ⟨k, hk, hkx, rfl, HM, rfl⟩ := hrel
    by_cases hlt : k < l.length
    · obtain ⟨b, off, rfl, hb, hc⟩ := HA.out (by intro e; rw [e] at hlt; simp at hlt)
      have hck := hc k hlt
      have hok := HOK.out l[k] (by simp)
      unfold I64 at hok
      have HT : Hid (l.take (k + 1) = l.take k ++ [l[k]]) := List.take_succ_eq_append_getElem hlt
      have HG : Hid (l[k] ∈ l) := by show _ ∈ _; simp
      have hlt' : (k : Int) < (l.length : Int) := by omega
      clear hc
      by_cases he : x = l[k]
      · have HE := hid he
        clear he
        rw [← HE.out] at hck
        go_wp2_with fail
        go_ret
        exact ⟨⟨_, rfl, fun _ => by omega, fun hf => by
          have := HG.out
          rw [← HE.out] at this
          rw [hasB_iff.2 this] at hf
          cases hf⟩, rfl⟩
      · generalize l[k] = y at *
        go_wp2_with fail
        go_roundg (l.length - (k + 1))
        case measure => omega
        case rel => exact ⟨k + 1, by omega, Nat.le_refl _, by go_num, by show _ ∉ _; rw [HT.out]; simp; exact ⟨HM.out, he⟩, rfl⟩
    · have hlt' : ¬ (k : Int) < (l.length : Int) := by omega
      go_wp2_with fail
      go_ret
      have HN := HM.out
      rw [List.take_of_length_le (by omega)] at HN
      exact ⟨⟨_, rfl, fun ht => absurd (hasB_iff.1 ht) HN, fun _ => rfl⟩, rfl⟩
set_option maxHeartbeats 800000 in
theorem contains_any {w : World} {v : Value} {l : List Int} (h : IL w v l) (x : Int) (hx : I64 x) : Calls Try.prog 45 #[v, .int .i64 x] w fun e w' => e = .returned (.bool (hasB l x)) ∧ w = w' := by
  have HC := hid (index_any h x hx)
  obtain ⟨⟨a, cap, rfl, _⟩, _⟩ := h
  generalize hasB l x = B at *
  go_enter Try.func45, Try.ntmps45
  go_wp2_with fail
  refine HC.out.mono ?_
  rintro e w1 ⟨⟨r, rfl, h1, h2⟩, rfl⟩
  cases B with
  | true =>
    have hr := h1 rfl
    clear h1 h2
    go_wp2_with fail
    go_ret
    exact ⟨ret_bool (by simp [hr]), rfl⟩
  | false =>
    have hr := h2 rfl
    subst hr
    clear h1 h2
    go_wp2_with fail
    go_ret
    exact ⟨rfl, rfl⟩
theorem info3 : ∃ i, Try.prog.info? 3 = some i ∧ i.zero = some (.int .i64 0) ∧ i.size = 1 ∧ i.bytes = 8 := ⟨_, rfl, rfl, rfl, rfl⟩
def vals (l : List Int) : List Value := l.map fun x => .int .i64 x
theorem vals_one (l : List Int) : ∀ u ∈ vals l, u.oneCell' = true := by
  intro u hu
  obtain ⟨x, _, rfl⟩ := List.mem_map.1 hu
  rfl
theorem vals_length (l : List Int) : (vals l).length = l.length := by simp [vals]
theorem add_at (b o i : Nat) : (⟨b, o, none⟩ : Addr).add i = ⟨b, o + i, none⟩ := by unfold Addr.add; split <;> simp_all
theorem IL.of {w : World} {B : Nat} {v : Value} {l : List Int} (h : w.ownsRow B 3 1 v l.length (vals l)) (hok : ∀ x ∈ l, I64 x) (hf : l.length ≤ 17592186044415) : IL w v l := by
  refine ⟨?_, hok, hf⟩
  have hc := fun g (hg : v.ownBlock = some g) => World.ownsRow.cells h hg
  have hlt := World.ownsRow.lt h
  obtain ⟨h1, h2⟩ := h
  rcases h2 with ⟨rfl, h0⟩ | ⟨g, cap, cur, rfl, hB, hg, hnc, hcm, hcs, htk⟩
  · exact ⟨none, 0, by rw [h0], by omega, Nat.zero_le _, fun _ => rfl, fun hne => absurd (List.eq_nil_of_length_eq_zero h0) hne⟩
  · refine ⟨some ⟨g, 0, none⟩, cap, rfl, hnc, hcm, (fun h => by cases h), fun hne => ⟨g, 0, rfl, (hlt g rfl).2, fun i hi => ?_⟩⟩
    have := hc g rfl i (.int .i64 l[i]) (by simp [vals, hi])
    rw [add_at] at this
    exact this
theorem in_own {w : World} {B n : Nat} {v : Value} {l : List Int} {xs : List Value} (h : w.ownsRow B 3 1 v n xs) : In (fun b => B ≤ b) v l := fun _ b off n c e => (World.ownsRow.lt h b (by
  rcases h.2 with ⟨e1, _⟩ | ⟨g, cap, cur, e1, _⟩
  · rw [e1] at e; cases e
  · rw [e1] at e; cases e; rw [e1]; rfl)).1
theorem IL.cells {w : World} {v : Value} {l : List Int} (h : IL w v l) {b off len cap : Nat} (hv : v = .slice (some ⟨b, off, none⟩) len cap) (hne : l ≠ []) : ∀ j u, (vals l)[j]? = some u → w.cell? ((⟨b, off, none⟩ : Addr).add j) = some u := by
  intro j u hu
  obtain ⟨⟨a, c, e, _, _, _, h4⟩, _⟩ := h
  obtain ⟨b', off', e1, e2, e3⟩ := h4 hne
  subst e1
  subst hv
  cases e
  obtain ⟨hj, e4⟩ := List.getElem?_eq_some_iff.1 hu
  rw [vals_length] at hj
  rw [add_at, e3 j hj, ← e4]
  simp [vals]


set_option maxHeartbeats 1600000 in
theorem clone_any {w : World} {v : Value} {l : List Int} (h : IL w v l) : Calls Try.prog 33 #[v] w fun e w' => ∃ v', e = .returned v' ∧ IL w' v' l ∧ In (fun b => w.heap.size ≤ b) v' l ∧ Below w.heap.size w w' := by
  obtain ⟨i0, hi0, hz0, hz1, hz2⟩ := info3
  have HI := hid h
  obtain ⟨⟨a, cap, rfl, hcap, hcm, hnn, hat⟩, hok, hfew⟩ := h
  have hlen : l.length ≤ maxLen := by omega
  have HNIL := hid (fun W : World => Lib.run_eql_slice_nil (P := Try.prog) W 30 3 a l.length cap 0 0 Try.underlying30)
  have hnil := fun W : World => HNIL.out W
  have HOK := hid hok
  cases a with
  | none =>
    have h0 := hnn rfl
    subst h0
    have hl : l = [] := List.eq_nil_of_length_eq_zero (by omega)
    subst hl
    have hnil2 : ∀ W : World, (binOp .eql 30 (.slice none 0 0) (.slice none 0 0)).run Try.prog W = .ok (.bool true) W := fun W => HNIL.out W
    clear hat hok hnn hcap hcm HNIL hnil
    go_enter Try.func33, Try.ntmps33
    go_wp2_with fail
    go_ret
    exact ⟨_, rfl, IL.nil _, In.nil _ _, Below.refl _ _⟩
  | some ad =>
    have HROW : Hid ((w.alloc (.cells #[] 3)).ownsRow w.heap.size 3 1 (.slice (some ⟨w.heap.size, 0, none⟩) 0 0) 0 []) := ⟨rfl, .inr ⟨w.heap.size, 0, #[], rfl, Nat.le_refl _, heap_alloc_new _ _, Nat.le_refl _, Nat.zero_le _, rfl, rfl⟩⟩
    have hb0 : Below w.heap.size w (w.alloc (.cells #[] 3)) := (Below.refl _ _).alloc (Nat.le_refl _) _
    have HB0 := hid hb0
    have HNW : Hid (∀ j u, (vals l)[j]? = some u → (w.alloc (.cells #[] 3)).cell? (ad.add j) = some u) := by
      by_cases hne : l = []
      · subst hne; intro j u hu; simp [vals] at hu
      · obtain ⟨b, off, e1, _⟩ := hat hne
        cases e1
        exact (HI.out.under hb0).cells rfl hne
    have HON := hid (vals_one l)
    have HLn : Hid ((vals l).length = l.length * 1) := by show _ = _; rw [vals_length]; omega
    clear hat hok hnn hcap hcm HNIL hb0
    go_enter Try.func33, Try.ntmps33
    go_wp2_with (at_builtin; refine wpList_append_own_at _ rfl _ _ 30 rfl w.heap.size 3 i0 _ 1 8 Try.underlying30 hi0 hz0 hz1 hz2 rfl (by decide) _ 0 [] rfl HROW.out ad l.length cap (vals l) rfl HLn.out HNW.out HON.out (by omega) (by unfold maxLen at hlen; omega) (by simp) ?_; intro v' w2 hown2 hg2 _ hat)
    go_ret
    refine ⟨v', rfl, ?_, in_own hown2, HB0.out.grown hg2 HB0.out.size (fun j hj => by cases hj; exact Nat.le_refl _)⟩
    rw [Nat.zero_add, List.nil_append] at hown2
    exact IL.of hown2 HOK.out hfew
theorem IL.vcells {w : World} {ad : Addr} {n c : Nat} {l : List Int} (h : IL w (.slice (some ad) n c) l) : n = l.length ∧ ∀ j u, (vals l)[j]? = some u → w.cell? (ad.add j) = some u := by
  obtain ⟨⟨a, cap, e, _, _, _, h4⟩, _⟩ := id h
  cases e
  refine ⟨rfl, fun j u hu => ?_⟩
  by_cases hne : l = []
  · subst hne; simp [vals] at hu
  · obtain ⟨b, off, e1, _⟩ := h4 hne
    cases e1
    exact h.cells rfl hne j u hu
theorem IL.none_nil {w : World} {n c : Nat} {l : List Int} (h : IL w (.slice none n c) l) : n = 0 ∧ c = 0 ∧ l = [] := by
  obtain ⟨⟨a, cap, e, h1, _, h3, _⟩, _⟩ := h
  cases e
  have := h3 rfl
  subst this
  have : l = [] := List.eq_nil_of_length_eq_zero (by omega)
  subst this
  exact ⟨rfl, rfl, rfl⟩
theorem own_shape {w : World} {B n : Nat} {v : Value} {xs : List Value} (h : w.ownsRow B 3 1 v n xs) : ∃ a n c, v = .slice a n c := by
  rcases h.2 with ⟨e, _⟩ | ⟨g, cp, cur, e, _⟩
  · exact ⟨_, _, _, e⟩
  · exact ⟨_, _, _, e⟩
theorem wf_of {k : Int} (h : I64 k) : (Lit.int .i64 k).wf = true := WalkArith.wf_i64 h
end Go.Proofs.Ytdnpbhijjmlecaa

/- A group in memory: its block, the row of members, the list of partitions, the map of offsets; all groups: the map of names. -/
namespace Go.Proofs.Ytdnpbhijjmlecaa
open Go.RowKit Go.Maps
open Go.WideMaps (keyOf_string_mk)
set_option maxRecDepth 100000
set_option linter.unusedSimpArgs false
set_option linter.unusedVariables false

theorem law3 : Keyed Try.prog 3 := int_keyed Try.underlying3
theorem law9 : Keyed Try.prog 9 := string_keyed Try.underlying9
theorem zero3 (w : World) : (zeroValue 3).run Try.prog w = .ok (.int .i64 0) w := by kernel_rfl
theorem zero73 (w : World) : (zeroValue 73).run Try.prog w = .ok (.pointer none) w := by kernel_rfl
/-- The offsets' map. -/
def Ro (v : Value) : Option (DataW Value × List MemPlace) :=
  match v with
  | .int .i64 _ => some (.held v, [])
  | _ => none
theorem Ro_inv {v : Value} {y : DataW Value × List MemPlace} (h : Ro v = some y) : y = (.held v, []) := by
  unfold Ro at h
  split at h
  · simpa using h.symm
  · cases h
def omap (o : List (Int × Int)) : DataW Value := .map (o.map fun p => (Lit.int .i64 p.1, .held (.int .i64 p.2)))
theorem omap_size (o : List (Int × Int)) : Maps.size (omap o) = o.length := by simp [omap, Maps.size]
theorem sk (a b : Int) : (Lit.int .i64 a).sameKey (.int .i64 b) = (a == b) := by
  show (decide _ : Bool) = _
  rw [Bool.eq_iff_iff]; simp [Lit.sameKey]
theorem find_omap (n : Int) : ∀ o : List (Int × Int),
    (o.map fun p => (Lit.int .i64 p.1, (DataW.held (.int .i64 p.2) : DataW Value))).find? (fun p => p.1.sameKey (.int .i64 n)) = (o.find? (fun p => p.1 == n)).map fun p => (Lit.int .i64 p.1, .held (.int .i64 p.2))
  | [] => rfl
  | p :: r => by
    simp only [List.map_cons, List.find?_cons, sk]
    cases p.1 == n
    · exact find_omap n r
    · rfl
theorem omap_atKey (o : List (Int × Int)) (n : Int) : (omap o).atKey (.int .i64 n) (.held (.int .i64 0)) = .held (.int .i64 (valO o n)) := by
  unfold DataW.atKey omap
  simp only [find_omap]
  unfold valO getO
  cases o.find? (fun p => p.1 == n) <;> rfl
theorem omap_has (n : Int) (o : List (Int × Int)) : Maps.has (omap o) (.int .i64 n) = (getO o n).isSome := by
  unfold getO omap Maps.has
  simp only [Option.isSome_map]
  induction o with
  | nil => rfl
  | cons p r ih =>
    simp only [List.map_cons, List.any_cons, sk, List.find?_cons]
    cases p.1 == n
    · simpa only [Bool.false_or] using ih
    · rfl
theorem insert_omap (x : Int × Int) : ∀ o : List (Int × Int),
    DataW.insert (Lit.int .i64 x.1, (DataW.held (.int .i64 x.2) : DataW Value)) (o.map fun p => (Lit.int .i64 p.1, .held (.int .i64 p.2))) = (insO x o).map fun p => (Lit.int .i64 p.1, .held (.int .i64 p.2))
  | [] => rfl
  | p :: r => by
    have ih := insert_omap x r
    by_cases hb : x.1 < p.1
    · simp [List.map_cons, DataW.insert, insO, Lit.before, hb]
    · simp [List.map_cons, DataW.insert, insO, Lit.before, hb, ih]
theorem filter_omap (n : Int) : ∀ o : List (Int × Int),
    (o.map fun p => (Lit.int .i64 p.1, (DataW.held (.int .i64 p.2) : DataW Value))).filter (fun p => !p.1.sameKey (.int .i64 n)) = (delO o n).map fun p => (Lit.int .i64 p.1, .held (.int .i64 p.2))
  | [] => rfl
  | p :: r => by
    have ih := filter_omap n r
    unfold delO at ih ⊢
    simp only [List.map_cons, List.filter_cons, sk, ih]
    split <;> simp
theorem omap_put (o : List (Int × Int)) (n v : Int) : (omap o).put (.int .i64 n) (.held (.int .i64 v)) = omap (putO o n v) := by
  show DataW.map (DataW.insert (.int .i64 n, .held (.int .i64 v)) ((o.map fun p => (Lit.int .i64 p.1, (DataW.held (.int .i64 p.2) : DataW Value))).filter (fun p => !p.1.sameKey (.int .i64 n)))) = _
  rw [filter_omap, insert_omap (n, v)]
  rfl
theorem tightO {w : World} {b m : Nat} {D : DataW Value} (h : w.ownsMap Try.prog 3 Ro b m D) : w.ownsMap Try.prog 3 Ro b (Maps.size D) D := by
  obtain ⟨es, clock, hm, F, hs, rfl⟩ := h
  exact ⟨es, clock, hm, F, by simp [Maps.size, length_sorted], rfl⟩
theorem omap_look_ok {w : World} {b : Nat} {o : List (Int × Int)} {m : Nat} (h : w.ownsMap Try.prog 3 Ro b m (omap o)) (n : Int) (hn : I64 n) :
    (Instr.lookup 70 (.map (some b)) (.int .i64 n) true).run Try.prog w = .ok (.tuple #[.int .i64 (valO o n), .bool (getO o n).isSome]) w := by
  have hkey := keyOf_int_mk Try.underlying3 (wf_of hn)
  obtain ⟨v, ps, hrun, hv⟩ := World.ownsMap.look_ok h law3 Try.underlying70 (zero3 w) (zd := .held (.int .i64 0)) (zp := []) rfl hkey
  rw [omap_atKey] at hv
  have hv := Ro_inv hv
  simp only [Prod.mk.injEq, DataW.held.injEq] at hv
  rw [hrun, ← hv.1, omap_has]

/-- The members' row. -/
def flatM : List Mb → List Value
  | [] => []
  | m :: r => [.int .i64 m.id, .int .i64 m.num] ++ flatM r
theorem flatM_length : ∀ l : List Mb, (flatM l).length = l.length * 2
  | [] => rfl
  | m :: r => by simp [flatM, flatM_length r]; omega
theorem flatM_append : ∀ l m : List Mb, flatM (l ++ m) = flatM l ++ flatM m
  | [], m => rfl
  | x :: r, m => by simp [flatM, flatM_append r m]
theorem flatM_get : ∀ (l : List Mb) (i : Nat) (x : Mb), l[i]? = some x → (flatM l)[i * 2]? = some (.int .i64 x.id) ∧ (flatM l)[i * 2 + 1]? = some (.int .i64 x.num)
  | [], i, m, h => by simp at h
  | y :: r, 0, m, h => by simp at h; subst h; simp [flatM]
  | y :: r, i + 1, m, h => by
    have ih := flatM_get r i m (by simpa using h)
    have e : ∀ j, (flatM (y :: r))[(i + 1) * 2 + j]? = (flatM r)[i * 2 + j]? := fun j => by
      have e1 : (i + 1) * 2 + j = 2 + (i * 2 + j) := by omega
      rw [e1]
      show ([_, _] ++ flatM r)[2 + (i * 2 + j)]? = _
      rw [List.getElem?_append_right (by simp)]
      congr 1
      simp
    refine ⟨?_, ?_⟩
    · have := e 0; simp only [Nat.add_zero] at this; rw [this]; exact ih.1
    · rw [e 1]; exact ih.2

/-- What a call may turn: the blocks of S; all else that was there is as it was. -/
structure Keeps (S : Nat → Prop) (w w' : World) : Prop where
  os : w'.os = w.os
  tape : w'.tape = w.tape
  output : w'.output = w.output
  size : w.heap.size ≤ w'.heap.size
  block : ∀ k, k < w.heap.size → ¬ S k → w'.heap[k]? = w.heap[k]?
theorem Keeps.refl (S : Nat → Prop) (w : World) : Keeps S w w := ⟨rfl, rfl, rfl, Nat.le_refl _, fun _ _ _ => rfl⟩
theorem Keeps.of_below {S : Nat → Prop} {w w1 : World} (h : Below w.heap.size w w1) : Keeps S w w1 := ⟨h.os, h.tape, h.output, h.size, fun k hk _ => h.block k hk⟩
theorem Keeps.of_grown {S : Nat → Prop} {w w1 : World} {r : Option Nat} (h : w.grownBy w1 r) (hr : ∀ k, r = some k → S k) : Keeps S w w1 := ⟨h.os, h.tape, h.output, h.size, fun k hk hS => h.block k hk (fun e => hS (hr k e.symm))⟩
theorem Keeps.trans {S T : Nat → Prop} {w w1 w2 : World} (h : Keeps S w w1) (k : Keeps T w1 w2) (hT : ∀ x, T x → S x ∨ w.heap.size ≤ x) : Keeps S w w2 :=
  ⟨k.os.trans h.os, k.tape.trans h.tape, k.output.trans h.output, Nat.le_trans h.size k.size, fun x hx hS => (k.block x (Nat.lt_of_lt_of_le hx h.size) (fun ht => by rcases hT x ht with h1 | h1; exact hS h1; omega)).trans (h.block x hx hS)⟩
theorem Keeps.mono {S T : Nat → Prop} {w w1 : World} (h : Keeps S w w1) (hT : ∀ x, S x → T x) : Keeps T w w1 := ⟨h.os, h.tape, h.output, h.size, fun k hk hS => h.block k hk (fun e => hS (hT k e))⟩
theorem Keeps.below {S : Nat → Prop} {w w1 : World} {B : Nat} (h : Keeps S w w1) (hB : B ≤ w.heap.size) (hS : ∀ k, S k → B ≤ k) : Below B w w1 :=
  ⟨h.os, h.tape, h.output, h.size, fun k hk => h.block k (Nat.lt_of_lt_of_le hk hB) (fun hs => by have := hS k hs; omega)⟩
theorem Keeps.set {S : Nat → Prop} (w : World) {a : Addr} (ha : S a.block) (u : Value) : Keeps S w (w.setCell a u) :=
  ⟨rfl, rfl, rfl, by simp, fun k hk hS => Below.heap_setCell _ _ _ _ (fun e => hS (by subst e; exact ha))⟩

theorem row_lt {w : World} {e s : Nat} {v : Value} {n : Nat} {xs : List Value} (h : w.ownsRow 0 e s v n xs) {k : Nat} (hk : v.ownBlock = some k) : k < w.heap.size := (World.ownsRow.lt h k hk).2
theorem row_blk {w : World} {e s : Nat} {v : Value} {n : Nat} {xs : List Value} (h : w.ownsRow 0 e s v n xs) {k : Nat} (hk : v.ownBlock = some k) : ∃ cur, w.heap[k]? = some (.cells cur e (0, 0)) := by
  obtain ⟨h1, ⟨rfl, _⟩ | ⟨g, cap, cur, rfl, hB, hg, r⟩⟩ := h
  · cases hk
  · cases hk; exact ⟨cur, hg⟩
theorem row_kept {w w1 : World} {e s : Nat} {v : Value} {n : Nat} {xs : List Value} (h : w.ownsRow 0 e s v n xs) (hb : ∀ k, v.ownBlock = some k → w1.heap[k]? = w.heap[k]?) : w1.ownsRow 0 e s v n xs := by
  obtain ⟨h1, h2⟩ := h
  rcases h2 with h2 | ⟨g, cap, cur, rfl, hB, hg, r⟩
  · exact ⟨h1, .inl h2⟩
  · exact ⟨h1, .inr ⟨g, cap, cur, rfl, hB, (hb g rfl).trans hg, r⟩⟩
theorem row_shape {w : World} {e s : Nat} {v : Value} {n : Nat} {xs : List Value} (h : w.ownsRow 0 e s v n xs) : ∃ oa cap, v = .slice oa n cap ∧ n ≤ cap ∧ cap ≤ maxLen ∧ (oa = none → cap = 0) ∧ (0 < n → ∃ g, oa = some ⟨g, 0, none⟩) := by
  obtain ⟨_, ⟨e, h0⟩ | ⟨g, cap, cur, e, hb, hg, hn, hc, hs, ht⟩⟩ := h
  · exact ⟨none, 0, by rw [e, h0], by omega, Nat.zero_le _, fun _ => rfl, fun h => by omega⟩
  · exact ⟨some ⟨g, 0, none⟩, cap, e, hn, hc, (fun h => by cases h), fun _ => ⟨g, rfl⟩⟩
theorem row_base {B : Nat} {w : World} {e s : Nat} {v : Value} {n : Nat} {xs : List Value} (h : w.ownsRow B e s v n xs) : w.ownsRow 0 e s v n xs := by
  obtain ⟨h1, h2 | ⟨g, cap, cur, e1, hB, r⟩⟩ := h
  · exact ⟨h1, .inl h2⟩
  · exact ⟨h1, .inr ⟨g, cap, cur, e1, Nat.zero_le _, r⟩⟩
theorem frz_blk {w : World} {q : Nat} {cs : Array Value} {T : TypeId} (h : w.heap[q]? = some (.cells cs T)) (j : Nat) : w.frozen? ⟨q, j, none⟩ = false := by
  simp [World.frozen?, h]
theorem set_box {w : World} {q j : Nat} {cs : Array Value} {T : TypeId} {v : Value} (h : w.heap[q]? = some (.cells cs T)) : (w.setCell ⟨q, j, none⟩ v).heap[q]? = some (.cells (cs.setIfInBounds j v) T) :=
  heap_setCell_same w q j cs T v h
theorem IL.kept {w w' : World} {v : Value} {l : List Int} {X : Nat → Prop} (h : IL w v l) (hX : In X v l) (hb : ∀ k, X k → w'.heap[k]? = w.heap[k]?) (hs : w.heap.size ≤ w'.heap.size) : IL w' v l := by
  obtain ⟨⟨a, cap, rfl, h1, h2, h3, h4⟩, h5, h6⟩ := h
  refine ⟨⟨a, cap, rfl, h1, h2, h3, fun hn => ?_⟩, h5, h6⟩
  obtain ⟨b, off, rfl, e2, e3⟩ := h4 hn
  exact ⟨b, off, rfl, Nat.lt_of_lt_of_le e2 hs, fun i hi => (World.cell?_of_block (a := ⟨b, off + i, none⟩) (hb b (hX hn b off _ _ rfl))).trans (e3 i hi)⟩

/-- A group that is read: also the group of nothing. -/
structure GrR (w : World) (q : Nat) (vm vp vo : Value) (x : Gr) : Prop where
  cells : w.heap[q]? = some (.cells #[.int .i64 x.gen, .int .i64 x.ever, vm, vp, vo] 72 (0, 0))
  mem : w.ownsRow 0 84 2 vm x.mem.length (flatM x.mem)
  parts : IL w vp x.parts
  look : ∀ W, Below w.heap.size w W → ∀ n, I64 n → (Instr.lookup 70 vo (.int .i64 n) true).run Try.prog W = .ok (.tuple #[.int .i64 (valO x.offs n), .bool (getO x.offs n).isSome]) W
theorem GrR.under {w w1 : World} {q : Nat} {vm vp vo : Value} {x : Gr} (h : GrR w q vm vp vo x) (hb : Below w.heap.size w w1) : GrR w1 q vm vp vo x :=
  ⟨(hb.block q (Array.getElem?_eq_some_iff.1 h.cells).1).trans h.cells, row_kept h.mem (fun k hk => hb.block k (row_lt h.mem hk)), h.parts.under hb, fun W hW n hn => h.look W (hb.trans (hW.mono hb.size)) n hn⟩
section
variable {w : World} {q : Nat} {vm vp vo : Value} {x : Gr}
theorem GrR.lt (h : GrR w q vm vp vo x) : q < w.heap.size := (Array.getElem?_eq_some_iff.1 h.cells).1
theorem GrR.c0 (h : GrR w q vm vp vo x) : w.cell? ⟨q, 0, none⟩ = some (.int .i64 x.gen) := cell_blk h.cells 0 _ rfl
theorem GrR.c1 (h : GrR w q vm vp vo x) : w.cell? ⟨q, 1, none⟩ = some (.int .i64 x.ever) := cell_blk h.cells 1 _ rfl
theorem GrR.c2 (h : GrR w q vm vp vo x) : w.cell? ⟨q, 2, none⟩ = some vm := cell_blk h.cells 2 _ rfl
theorem GrR.c3 (h : GrR w q vm vp vo x) : w.cell? ⟨q, 3, none⟩ = some vp := cell_blk h.cells 3 _ rfl
theorem GrR.c4 (h : GrR w q vm vp vo x) : w.cell? ⟨q, 4, none⟩ = some vo := cell_blk h.cells 4 _ rfl
theorem GrR.fz (h : GrR w q vm vp vo x) (j : Nat) : w.frozen? ⟨q, j, none⟩ = false := frz_blk h.cells j
end
/-- The cells of a member. -/
theorem row_mem {w : World} {g n cap : Nat} {ms : List Mb} (h : w.ownsRow 0 84 2 (.slice (some ⟨g, 0, none⟩) n cap) ms.length (flatM ms)) (i : Nat) (x : Mb) (hx : ms[i]? = some x) : w.cell? ⟨g, i * 2, none⟩ = some (.int .i64 x.id) ∧ w.cell? ⟨g, i * 2 + 1, none⟩ = some (.int .i64 x.num) := by
  have hc := fun j u hu => World.ownsRow.cells h (g := g) rfl j u hu
  obtain ⟨h0, h1⟩ := flatM_get ms i x hx
  have k0 := hc _ _ h0
  have k1 := hc _ _ h1
  rw [add_at, Nat.zero_add] at k0 k1
  exact ⟨k0, k1⟩

/-- The blocks of a group that calls turn. -/
def Own (q : Nat) (vm : Value) (ob k : Nat) : Prop := k = q ∨ k = ob ∨ vm.ownBlock = some k
structure GrC (w : World) (q : Nat) (vm vp : Value) (ob : Nat) (x : Gr) : Prop where
  cells : w.heap[q]? = some (.cells #[.int .i64 x.gen, .int .i64 x.ever, vm, vp, .map (some ob)] 72 (0, 0))
  mem : w.ownsRow 0 84 2 vm x.mem.length (flatM x.mem)
  parts : IL w vp x.parts
  offs : w.ownsMap Try.prog 3 Ro ob x.offs.length (omap x.offs)
  apart : In (fun k => ¬ Own q vm ob k) vp x.parts
section
variable {w : World} {q ob : Nat} {vm vp : Value} {x : Gr}
theorem GrC.lt (h : GrC w q vm vp ob x) {k : Nat} (hk : Own q vm ob k) : k < w.heap.size := by
  rcases hk with rfl | rfl | hk
  · exact (Array.getElem?_eq_some_iff.1 h.cells).1
  · exact h.offs.lt
  · exact row_lt h.mem hk
theorem GrC.kept (h : GrC w q vm vp ob x) {Z : Nat → Prop} {w1 : World} (ho : ∀ k, Own q vm ob k → Z k) (hl : In Z vp x.parts) (hz : ∀ k, Z k → w1.heap[k]? = w.heap[k]?) (hs : w.heap.size ≤ w1.heap.size) : GrC w1 q vm vp ob x := by
  refine ⟨(hz q (ho _ (.inl rfl))).trans h.cells, row_kept h.mem (fun k hk => hz k (ho k (.inr (.inr hk)))), h.parts.kept hl hz hs, ?_, h.apart⟩
  obtain ⟨es, clock, hm, r⟩ := h.offs
  exact ⟨es, clock, (hz ob (ho _ (.inr (.inl rfl)))).trans hm, r⟩
theorem GrC.under (h : GrC w q vm vp ob x) {w1 : World} (hb : Below w.heap.size w w1) : GrC w1 q vm vp ob x := by
  refine ⟨(hb.block q (h.lt (.inl rfl))).trans h.cells, row_kept h.mem (fun k hk => hb.block k (row_lt h.mem hk)), h.parts.under hb, ?_, h.apart⟩
  obtain ⟨es, clock, hm, r⟩ := h.offs
  exact ⟨es, clock, (hb.block ob (h.lt (.inr (.inl rfl)))).trans hm, r⟩
theorem GrC.read (h : GrC w q vm vp ob x) : GrR w q vm vp (.map (some ob)) x := ⟨h.cells, h.mem, h.parts, fun W hW n hn => omap_look_ok (h.under hW).offs n hn⟩
theorem GrC.ne_qo (h : GrC w q vm vp ob x) : q ≠ ob := fun e => by
  obtain ⟨es, clock, hm, r⟩ := h.offs
  rw [← e, h.cells] at hm; cases hm
theorem GrC.ne_qm (h : GrC w q vm vp ob x) : vm.ownBlock ≠ some q := fun e => by
  obtain ⟨cur, hc⟩ := row_blk h.mem e; rw [h.cells] at hc; cases hc
theorem GrC.ne_om (h : GrC w q vm vp ob x) : vm.ownBlock ≠ some ob := fun e => by
  obtain ⟨es, clock, hm, r⟩ := h.offs
  obtain ⟨cur, hc⟩ := row_blk h.mem e; rw [hm] at hc; cases hc
end
/-- A group all of whose blocks are among Z. -/
def GrM (w : World) (Z : Nat → Prop) (q : Nat) (x : Gr) : Prop := ∃ vm vp ob, GrC w q vm vp ob x ∧ (∀ k, Own q vm ob k → Z k) ∧ In Z vp x.parts ∧ ∀ k, Z k → k < w.heap.size
def GAfter (Z : Nat → Prop) (w w' : World) (q : Nat) (x : Gr) : Prop := ∃ Z', GrM w' Z' q x ∧ (∀ k, Z' k → Z k ∨ w.heap.size ≤ k) ∧ Keeps Z w w'
theorem GrM.under {w w1 : World} {Z : Nat → Prop} {q : Nat} {x : Gr} (h : GrM w Z q x) (hb : Below w.heap.size w w1) : GrM w1 Z q x := by
  obtain ⟨vm, vp, ob, h1, h2, h3, h4⟩ := h
  exact ⟨vm, vp, ob, h1.under hb, h2, h3, fun k hk => Nat.lt_of_lt_of_le (h4 k hk) hb.size⟩
theorem GrM.kept {w w1 : World} {Z : Nat → Prop} {q : Nat} {x : Gr} (h : GrM w Z q x) (hz : ∀ k, Z k → w1.heap[k]? = w.heap[k]?) (hs : w.heap.size ≤ w1.heap.size) : GrM w1 Z q x := by
  obtain ⟨vm, vp, ob, h1, h2, h3, h4⟩ := h
  exact ⟨vm, vp, ob, h1.kept h2 h3 hz hs, h2, h3, fun k hk => Nat.lt_of_lt_of_le (h4 k hk) hs⟩
theorem GrM.after {w : World} {Z q x} (h : GrM w Z q x) {w1 : World} (hb : Below w.heap.size w w1) : GAfter Z w w1 q x := ⟨Z, h.under hb, fun k hk => .inl hk, Keeps.of_below hb⟩
theorem GrM.read {w : World} {Z q x} (h : GrM w Z q x) : ∃ vm vp vo, GrR w q vm vp vo x := by
  obtain ⟨vm, vp, ob, h1, _⟩ := h
  exact ⟨vm, vp, _, h1.read⟩
theorem GAfter.trans {Z Z1 : Nat → Prop} {w w1 w2 : World} {q : Nat} {x : Gr} (hz : ∀ k, Z1 k → Z k ∨ w.heap.size ≤ k) (hk : Keeps Z w w1) (h : GAfter Z1 w1 w2 q x) : GAfter Z w w2 q x := by
  obtain ⟨Z2, a1, a2, a3⟩ := h
  refine ⟨Z2, a1, fun k hk2 => ?_, hk.trans a3 hz⟩
  rcases a2 k hk2 with h1 | h1
  · exact hz k h1
  · exact .inr (Nat.le_trans hk.size h1)
theorem GrC.after {w w1 : World} {Z : Nat → Prop} {q ob : Nat} {vm vp : Value} {x : Gr} (h : GrC w1 q vm vp ob x) (ho : ∀ k, Own q vm ob k → Z k ∨ w.heap.size ≤ k) (hl : In (fun k => Z k ∨ w.heap.size ≤ k) vp x.parts) (hk : Keeps Z w w1) : GAfter Z w w1 q x :=
  ⟨fun k => (Z k ∨ w.heap.size ≤ k) ∧ k < w1.heap.size, ⟨vm, vp, ob, h, fun k hk => ⟨ho k hk, h.lt hk⟩, fun hn b off n c e => ⟨hl hn b off n c e, h.parts.old hn b off n c e⟩, fun k hk => hk.2⟩, fun k hk => hk.1, hk⟩
end Go.Proofs.Ytdnpbhijjmlecaa

/- The ids of a group's members. -/
namespace Go.Proofs.Ytdnpbhijjmlecaa
open Go.RowKit Go.Maps
set_option maxRecDepth 100000
set_option linter.unusedSimpArgs false
set_option linter.unusedVariables false

def idsM (ms : List Mb) : List Int := ms.map fun m => m.id
theorem ids_snoc (ms : List Mb) (k : Nat) (h : k < ms.length) : idsM (ms.take (k + 1)) = idsM (ms.take k) ++ [ms[k].id] := by
  unfold idsM; rw [List.take_succ_eq_append_getElem h, List.map_append]; rfl
set_option maxHeartbeats 3200000 in
theorem ids_any {w : World} {q : Nat} {vm vp vo : Value} {x : Gr} (h : GrR w q vm vp vo x) (hf : x.mem.length ≤ 1000) (h64 : ∀ m ∈ x.mem, I64 m.id) : Calls Try.prog 37 #[.pointer (some ⟨q, 0, none⟩)] w fun e w' => ∃ v', e = .returned v' ∧ IL w' v' (idsL x) ∧ In (fun b => w.heap.size ≤ b) v' (idsL x) ∧ Below w.heap.size w w' := by
  obtain ⟨i0, hi0, hz0, hz1, hz2⟩ := info3
  have c2 := h.c2
  have hq := h.lt
  have HI := hid h
  obtain ⟨oa, cap, rfl, hcap, hcm, hnn, hat⟩ := row_shape h.mem
  have HA := hid hat
  have H64 := hid h64
  clear hat h h64 hnn hcap hcm
  go_enter Try.func37, Try.ntmps37
  go_wp2_with fail
  go_loopg [3, 11] x.mem.length (fun kx s3 s11 wr => ∃ k : Nat, k ≤ x.mem.length ∧ x.mem.length - k ≤ kx ∧ s11 = .int .i64 (k : Int) ∧ Hid (wr.ownsRow w.heap.size 3 1 s3 (idsM (x.mem.take k)).length (vals (idsM (x.mem.take k))) ∧ Below w.heap.size w wr) ∧ (∃ a n c, s3 = .slice a n c))
  case atStart => exact ⟨0, Nat.zero_le _, by omega, rfl, ⟨World.ownsRow_nil _ _ _ _, Below.refl _ _⟩, ⟨_, _, _, rfl⟩⟩
  case round =>
    obtain ⟨k, hk, hkx, rfl, HR, ⟨a1, n1, c1, rfl⟩⟩ := hrel
    by_cases hlt : k < x.mem.length
    · obtain ⟨g, rfl⟩ := HA.out (by omega)
      have hx : x.mem[k]? = some x.mem[k] := List.getElem?_eq_getElem hlt
      obtain ⟨k0, k1⟩ := row_mem (HI.out.under HR.out.2).mem k _ hx
      have HS := hid (ids_snoc x.mem k hlt)
      have HY := hid (H64.out x.mem[k] (by simp))
      have hn1 : (idsM (x.mem.take k)).length ≤ k := by simp [idsM]; omega
      have hlt' : (k : Int) < (x.mem.length : Int) := by omega
      generalize x.mem[k] = m at *
      clear hx
      obtain ⟨y, z⟩ := m
      have HB1 : Hid (Below w.heap.size w (wr.alloc (.cells #[.int .i64 y, .int .i64 z] 84))) := HR.out.2.alloc HR.out.2.size _
      have HX : Hid (((wr.alloc (.cells #[.int .i64 y, .int .i64 z] 84)).alloc (.cells #[.int .i64 y] 3)).ownsRow w.heap.size 3 1 (.slice a1 n1 c1) (idsM (x.mem.take k)).length (vals (idsM (x.mem.take k)))) := (HR.out.1.alloc _).alloc _
      have HN1 : Hid (∀ j u, ([.int .i64 y] : List Value)[j]? = some u → ((wr.alloc (.cells #[.int .i64 y, .int .i64 z] 84)).alloc (.cells #[.int .i64 y] 3)).cell? ((⟨wr.heap.size + 1, 0, none⟩ : Addr).add j) = some u) := fun j u hu => by
        cases j with
        | zero => simp at hu; subst hu; rw [add_at]; exact cell_blk (by have := heap_alloc_new (wr.alloc (.cells #[.int .i64 y, .int .i64 z] 84)) (.cells #[.int .i64 y] 3); simpa using this) 0 _ rfl
        | succ j => simp at hu
      have HO1 : Hid (∀ u ∈ ([.int .i64 y] : List Value), u.oneCell' = true) := fun u hu => by simp at hu; subst hu; rfl
      have hbs := HR.out.2.size
      have HB2 : Hid (Below w.heap.size w ((wr.alloc (.cells #[.int .i64 y, .int .i64 z] 84)).alloc (.cells #[.int .i64 y] 3))) := HB1.out.alloc (by simp; omega) _
      go_wp2_with (at_builtin; go_loud (refine wpList_append_own_at _ rfl _ _ 30 rfl w.heap.size 3 i0 _ 1 8 Try.underlying30 hi0 hz0 hz1 hz2 rfl (by decide) _ (idsM (x.mem.take k)).length _ rfl HX.out ⟨wr.heap.size + 1, 0, none⟩ 1 1 [.int .i64 y] rfl rfl HN1.out HO1.out (by first | omega | (unfold maxLen; omega)) (by first | omega | (unfold maxLen; omega)) (by simp; omega) ?_); intro v2 w2 hown2 hg2 _ hat2)
      have hsh : ∃ a n c, v2 = .slice a n c := own_shape hown2
      obtain ⟨a2, n2, c2', rfl⟩ := hsh
      have HB3 : Hid (Below w.heap.size w w2) := HB2.out.grown hg2 HB2.out.size (fun j hj => (World.ownsRow.lt HX.out j hj).1)
      have HW2 := hid hown2
      clear hown2 hg2 hat2
      go_wp2_with fail
      go_roundg (x.mem.length - (k + 1))
      case measure => omega
      case rel => exact ⟨k + 1, by omega, Nat.le_refl _, by go_num, ⟨by rw [HS.out]; simp only [List.length_append, List.length_cons, List.length_nil, Nat.zero_add, vals, List.map_append, List.map_cons, List.map_nil]; exact HW2.out, HB3.out⟩, ⟨_, _, _, rfl⟩⟩
    · have hlt' : ¬ (k : Int) < (x.mem.length : Int) := by omega
      go_wp2_with fail
      go_ret
      have hr := HR.out
      rw [List.take_of_length_le (by omega)] at hr
      have hlm : (idsM x.mem).length = x.mem.length := by simp [idsM]
      exact ⟨_, rfl, IL.of hr.1 (fun y hy => by obtain ⟨m, hm, rfl⟩ := List.mem_map.1 hy; exact H64.out m hm) (by show (idsM x.mem).length ≤ _; omega), in_own hr.1, hr.2⟩
end Go.Proofs.Ytdnpbhijjmlecaa

/- A member's place; is it there? -/
namespace Go.Proofs.Ytdnpbhijjmlecaa
open Go.RowKit Go.Maps
set_option maxRecDepth 100000
set_option linter.unusedSimpArgs false
set_option linter.unusedVariables false

def placeI (ms : List Mb) (id : Int) : Int := match placeN ms id with | some i => (i : Int) | none => -1
theorem placeI_at {ms : List Mb} {id : Int} {k : Nat} (h : ∀ m ∈ ms.take k, m.id ≠ id) (hk : k < ms.length) (e : ms[k].id = id) : placeI ms id = k := by
  have hp : placeN ms id = some k := by
    unfold placeN
    rw [List.findIdx?_eq_some_iff_getElem]
    refine ⟨hk, by simpa using e, fun j hj => ?_⟩
    have := h ms[j] (by rw [List.mem_take_iff_getElem]; exact ⟨j, by omega, rfl⟩)
    simpa using this
  unfold placeI
  rw [hp]
theorem placeI_none {ms : List Mb} {id : Int} (h : ∀ m ∈ ms, m.id ≠ id) : placeI ms id = -1 := by
  unfold placeI
  rw [place_none.2 h]
theorem placeI_le (ms : List Mb) (id : Int) : -1 ≤ placeI ms id ∧ placeI ms id ≤ ms.length := by
  unfold placeI
  cases h : placeN ms id with
  | none => simp
  | some i => obtain ⟨m, _, _, hi⟩ := place_some h; simp; omega
set_option maxHeartbeats 1600000 in
theorem place1_any {w : World} (m : Mb) (id : Int) (r : Nat) (hr : w.heap[r]? = some (.cells #[.int .i64 id] 3)) : Calls Try.prog 70 #[.agg #[.int .i64 m.id, .int .i64 m.num], .pointer (some ⟨r, 0, none⟩)] w fun e w' => e = .returned (.bool (m.id == id)) ∧ Below w.heap.size w w' := by
  have hlt : r < w.heap.size := (Array.getElem?_eq_some_iff.1 hr).1
  have hne : ¬ r = w.heap.size := by omega
  have c0 := cell_blk hr 0 _ rfl
  go_enter Try.func70, Try.ntmps70
  go_wp2_with fail
  go_ret
  exact ⟨ret_bool (by first | rfl | simp), (Below.refl _ _).alloc (Nat.le_refl _) _⟩
set_option maxHeartbeats 1600000 in
theorem indexFunc_any {w : World} {q : Nat} {vm vp vo : Value} {x : Gr} (h : GrR w q vm vp vo x) (hf : x.mem.length ≤ 1000) (id : Int) (r : Nat) (hr : w.heap[r]? = some (.cells #[.int .i64 id] 3)) : Calls Try.prog 69 #[vm, .func (.func 70) #[] #[.pointer (some ⟨r, 0, none⟩)]] w fun e w' => e = .returned (.int .i64 (placeI x.mem id)) ∧ Below w.heap.size w w' := by
  have HI := hid h
  obtain ⟨oa, cap, rfl, hcap, hcm, hnn, hat⟩ := row_shape h.mem
  have HR := hid hr
  clear h hr hnn hcm hcap
  go_enter Try.func69, Try.ntmps69
  go_wp2_with fail
  go_loopg [8] x.mem.length (fun kx s8 wr => ∃ k : Nat, k ≤ x.mem.length ∧ x.mem.length - k ≤ kx ∧ s8 = .int .i64 (k : Int) ∧ Hid ((∀ m ∈ x.mem.take k, m.id ≠ id) ∧ Below w.heap.size w wr))
  case atStart => exact ⟨0, Nat.zero_le _, by omega, rfl, by simp, Below.refl _ _⟩
  case round =>
    obtain ⟨k, hk, hkx, rfl, HK⟩ := hrel
    by_cases hlt : k < x.mem.length
    · obtain ⟨g, rfl⟩ := hat (by omega)
      have hx : x.mem[k]? = some x.mem[k] := List.getElem?_eq_getElem hlt
      obtain ⟨k0, k1⟩ := row_mem (HI.out.under HK.out.2).mem k _ hx
      have H70 := hid (place1_any x.mem[k] id r ((HK.out.2.block r (Array.getElem?_eq_some_iff.1 HR.out).1).trans HR.out))
      have HT : Hid (x.mem[k].id ≠ id → ∀ m ∈ x.mem.take (k + 1), m.id ≠ id) := fun hn m hm => by
        rw [List.take_succ_eq_append_getElem hlt] at hm
        rcases List.mem_append.1 hm with hm | hm
        · exact HK.out.1 m hm
        · obtain rfl := List.mem_singleton.1 hm; exact hn
      have HA : Hid (x.mem[k].id = id → placeI x.mem id = k) := fun e => placeI_at HK.out.1 hlt e
      have hlt' : (k : Int) < (x.mem.length : Int) := by omega
      generalize x.mem[k] = m at *
      clear hx
      cases hB : (m.id == id) with
      | true =>
        rw [hB] at H70
        have HE := hid (HA.out (by simpa using hB))
        clear hB HA HT
        go_wp2_with fail
        refine H70.out.mono ?_
        rintro e w1 ⟨rfl, hb1⟩
        go_wp2_with fail
        go_ret
        exact ⟨ret_int HE.out.symm, HK.out.2.trans (hb1.mono HK.out.2.size)⟩
      | false =>
        rw [hB] at H70
        have hT := HT.out (by simpa using hB)
        clear hB HA HT
        go_wp2_with fail
        refine H70.out.mono ?_
        rintro e w1 ⟨rfl, hb1⟩
        have HK2 : Hid ((∀ m ∈ x.mem.take (k + 1), m.id ≠ id) ∧ Below w.heap.size w w1) := ⟨hT, HK.out.2.trans (hb1.mono HK.out.2.size)⟩
        clear hb1 hT HK H70 k0 k1
        go_wp2_with fail
        go_roundg (x.mem.length - (k + 1))
        case measure => omega
        case rel => exact ⟨k + 1, by omega, Nat.le_refl _, by go_num, HK2.out⟩
    · have hlt' : ¬ (k : Int) < (x.mem.length : Int) := by omega
      go_wp2_with fail
      go_ret
      have hN := HK.out.1
      rw [List.take_of_length_le (by omega)] at hN
      exact ⟨ret_int (placeI_none hN).symm, HK.out.2⟩
set_option maxHeartbeats 1600000 in
theorem place_any {w : World} {q : Nat} {vm vp vo : Value} {x : Gr} (h : GrR w q vm vp vo x) (hf : x.mem.length ≤ 1000) (id : Int) : Calls Try.prog 59 #[.pointer (some ⟨q, 0, none⟩), .int .i64 id] w fun e w' => e = .returned (.int .i64 (placeI x.mem id)) ∧ Below w.heap.size w w' := by
  have hb0 : Below w.heap.size w (w.alloc (.cells #[.int .i64 id] 3)) := (Below.refl _ _).alloc (Nat.le_refl _) _
  have H69 := hid (indexFunc_any (h.under hb0) hf id w.heap.size (heap_alloc_new _ _))
  have c2 := h.c2
  have hq := h.lt
  have hne : ¬ q = w.heap.size := by omega
  have HB := hid hb0
  obtain ⟨oa, cap, rfl, _⟩ := row_shape h.mem
  clear h hb0
  go_enter Try.func59, Try.ntmps59
  go_wp2_with (go_at_call 69; refine H69.out.mono ?_; rintro e w1 ⟨rfl, hb1⟩)
  go_ret
  exact ⟨rfl, HB.out.trans (hb1.mono HB.out.size)⟩
theorem hasM_iff {x : Gr} {id : Int} : hasM x id = decide (0 ≤ placeI x.mem id) := by
  unfold hasM placeI
  cases h : placeN x.mem id with
  | none => simp
  | some i => simp
set_option maxHeartbeats 800000 in
theorem has_any {w : World} {q : Nat} {vm vp vo : Value} {x : Gr} (h : GrR w q vm vp vo x) (hf : x.mem.length ≤ 1000) (id : Int) : Calls Try.prog 57 #[.pointer (some ⟨q, 0, none⟩), .int .i64 id] w fun e w' => e = .returned (.bool (hasM x id)) ∧ Below w.heap.size w w' := by
  have HP := hid (place_any h hf id)
  have HF := hid (hasM_iff (x := x) (id := id))
  generalize hasM x id = B at *
  generalize placeI x.mem id = p at *
  clear h
  go_enter Try.func57, Try.ntmps57
  go_wp2_with fail
  refine HP.out.mono ?_
  rintro e w1 ⟨rfl, hb1⟩
  go_wp2_with fail
  go_ret
  exact ⟨ret_bool (by rw [HF.out]), hb1⟩
end Go.Proofs.Ytdnpbhijjmlecaa

/- Assign: a row of lists. -/
namespace Go.Proofs.Ytdnpbhijjmlecaa
open Go.RowKit Go.Maps
set_option maxRecDepth 100000
set_option linter.unusedSimpArgs false
set_option linter.unusedVariables false

theorem from_le (n k : Nat) : ∀ i, i ≤ k → fromN n k i = i * (n / k) + min i (n % k)
  | 0, _ => by simp [fromN]
  | i + 1, h => by
    rw [fromN, from_le n k i (by omega), shareN, Nat.succ_mul]
    split <;> omega
theorem from_all (n k : Nat) (hk : 0 < k) : fromN n k k = n := by
  rw [from_le n k k (Nat.le_refl _), Nat.min_eq_right (Nat.le_of_lt (Nat.mod_lt _ hk))]
  exact Nat.div_add_mod n k
theorem from_mono (n k : Nat) : ∀ (d i : Nat), fromN n k i ≤ fromN n k (i + d)
  | 0, i => Nat.le_refl _
  | d + 1, i => Nat.le_trans (from_mono n k d i) (by rw [← Nat.add_assoc, fromN]; omega)
theorem from_top (n k i : Nat) (hi : i < k) : fromN n k i + shareN n k i ≤ n := by
  have h1 := from_mono n k (k - (i + 1)) (i + 1)
  rw [show i + 1 + (k - (i + 1)) = k by omega, from_all n k (by omega), fromN] at h1
  exact h1
theorem share_le (n k i : Nat) (hi : i < k) : shareN n k i ≤ n := by have := from_top n k i hi; omega
theorem shareL_len (l : List Int) (k i : Nat) (hi : i < k) : (shareL l k i).length = shareN l.length k i := by
  have := from_top l.length k i hi
  unfold shareL
  rw [List.length_take, List.length_drop]
  omega
/-- A row of lists. -/
def LsAt (w : World) (B : Nat) (vs : List Value) (ls : List (List Int)) : Prop := vs.length = ls.length ∧ ∀ i (h : i < vs.length) (h2 : i < ls.length), IL w vs[i] ls[i] ∧ In (fun b => B ≤ b) vs[i] ls[i]
def noS : Value := .slice none 0 0
theorem info30 : ∃ i, Try.prog.info? 30 = some i ∧ i.zero = some noS ∧ i.size = 1 ∧ i.bytes = 24 := ⟨_, rfl, rfl, rfl, rfl⟩
theorem make42 (w : World) (n : Nat) (hn : n ≤ 1000) : (Instr.makeSlice 42 (.int .i64 (n : Int)) (.int .i64 (n : Int))).run Try.prog w = .ok (.slice (some ⟨w.heap.size, 0, none⟩) n n) (w.alloc (.cells (List.replicate n noS).toArray 30)) := by
  obtain ⟨i, h1, h2, h3, h4⟩ := info30
  have := run_makeSlice (P := Try.prog) w 42 30 i _ Try.underlying42 h1 h2 .i64 .i64 (n : Int) (n : Int) (by omega) (Int.le_refl _) (by rw [h3]; simp; omega) (by rw [h4]; omega) (by omega)
  rw [this, h3]
  have e : madeCells noS.cells (n * 1) = (List.replicate n noS).toArray := by
    apply Array.ext_getElem?
    intro i
    have hc : noS.cells = #[noS] := by kernel_rfl
    rw [hc]
    by_cases h : i < n
    · simp [madeCells, h, Nat.mod_one]
    · simp [madeCells, h]
  simp only [Int.toNat_natCast]
  rw [e]
end Go.Proofs.Ytdnpbhijjmlecaa

/- Assign. -/
namespace Go.Proofs.Ytdnpbhijjmlecaa
open Go.RowKit Go.Maps
set_option maxRecDepth 100000
set_option linter.unusedSimpArgs false
set_option linter.unusedVariables false

theorem il_sub {w : World} {a : Option Addr} {cap : Nat} {l : List Int} (h : IL w (.slice a l.length cap) l) (f m : Nat) (hf : f + m ≤ l.length) : (cap = f → IL w (.slice a m 0) ((l.drop f).take m)) ∧ IL w (.slice (Option.map (fun x => x.add f) a) m (cap - f)) ((l.drop f).take m) := by
  have hlen : ((l.drop f).take m).length = m := by rw [List.length_take, List.length_drop]; omega
  obtain ⟨⟨a', cap', e, h1, h2, h3, h4⟩, h5, h6⟩ := h
  cases e
  have hok : ∀ x ∈ (l.drop f).take m, I64 x := fun x hx => h5 x (List.mem_of_mem_drop (List.mem_of_mem_take hx))
  refine ⟨fun hc => ?_, ?_⟩
  · have hm : m = 0 := by omega
    subst hm
    refine ⟨⟨a, 0, by rw [hlen], by simp, Nat.zero_le _, fun _ => rfl, fun hn => absurd (List.take_zero) hn⟩, hok, by simp⟩
  · refine ⟨⟨_, _, by rw [hlen], by omega, by omega, fun hn => ?_, fun hn => ?_⟩, hok, by omega⟩
    · rw [Option.map_eq_none_iff] at hn
      have := h3 hn
      omega
    · have hl : l ≠ [] := fun e => hn (by subst e; simp)
      obtain ⟨b, off, rfl, g1, g2⟩ := h4 hl
      refine ⟨b, off + f, by simp [add_at], g1, fun i hi => ?_⟩
      have := g2 (f + i) (by omega)
      rw [← Nat.add_assoc] at this
      rw [this]
      simp
/-- What a call leaves of the row so far. -/
def AInv (w wr : World) (l : List Int) (k i : Nat) : Prop := ∃ ds : List Value, ds.length = i ∧ wr.heap[w.heap.size]? = some (.cells (ds ++ List.replicate (k - i) noS).toArray 30) ∧ (∀ j (h : j < ds.length), IL wr ds[j] (shareL l k j) ∧ In (fun b => w.heap.size + 1 ≤ b) ds[j] (shareL l k j)) ∧ Below w.heap.size w wr
theorem AInv.below {w wr : World} {l : List Int} {k i : Nat} (h : AInv w wr l k i) : Below w.heap.size w wr := by obtain ⟨ds, h1, h2, h3, h4⟩ := h; exact h4
theorem AInv.start (w : World) (l : List Int) (k : Nat) : AInv w (w.alloc (.cells (List.replicate k noS).toArray 30)) l k 0 :=
  ⟨[], rfl, heap_alloc_new _ _, fun j h => by simp at h, (Below.refl _ _).alloc (Nat.le_refl _) _⟩
theorem AInv.next {w wr : World} {l : List Int} {k i : Nat} (h : AInv w wr l k i) (hi : i < k) {v : Value} {w1 : World} (h1 : IL w1 v (shareL l k i)) (h2 : In (fun b => wr.heap.size ≤ b) v (shareL l k i)) (hb : Below wr.heap.size wr w1) :
    w1.cell? ⟨w.heap.size, i, none⟩ = some noS ∧ w1.frozen? ⟨w.heap.size, i, none⟩ = false ∧ (v.oneCell' = true → AInv w (w1.setCell ⟨w.heap.size, i, none⟩ v) l k (i + 1)) := by
  obtain ⟨ds, d1, d2, d3, d4⟩ := h
  have hlt := (Array.getElem?_eq_some_iff.1 d2).1
  have hg := (hb.block _ hlt).trans d2
  refine ⟨cell_blk hg i _ ?_, frz_blk hg i, fun hv => ?_⟩
  · rw [List.getElem?_toArray, List.getElem?_append_right (by omega), d1, Nat.sub_self, List.getElem?_replicate, if_pos (by omega)]
  · have e : (ds ++ List.replicate (k - i) noS).set i v = (ds ++ [v]) ++ List.replicate (k - (i + 1)) noS := by
      obtain ⟨m, hm⟩ : ∃ m, k - i = m + 1 := ⟨k - i - 1, by omega⟩
      rw [hm, show k - (i + 1) = m by omega, List.replicate_succ, List.set_append_right _ _ (by omega), d1, Nat.sub_self]
      simp
    refine ⟨ds ++ [v], by simp [d1], ?_, fun j hj => ?_, ?_⟩
    · rw [set_box hg, ← e]
      congr 2
      apply Array.ext'
      simp
    · have hk : ∀ b, w.heap.size + 1 ≤ b → (w1.setCell ⟨w.heap.size, i, none⟩ v).heap[b]? = w1.heap[b]? := fun b hb => Below.heap_setCell _ _ _ _ (by simp; omega)
      by_cases hj2 : j < ds.length
      · obtain ⟨g1, g2⟩ := d3 j hj2
        have e2 : (ds ++ [v])[j] = ds[j] := List.getElem_append_left hj2
        rw [e2]
        exact ⟨(g1.under hb).kept g2 hk (by simp), g2⟩
      · have hjl : j = ds.length := by simp at hj; omega
        subst hjl
        have e2 : (ds ++ [v])[ds.length] = v := by simp
        rw [e2, d1]
        have g2 : In (fun b => w.heap.size + 1 ≤ b) v (shareL l k i) := h2.mono (fun b hb => by omega)
        exact ⟨h1.kept g2 hk (by simp), g2⟩
    · exact (d4.trans (hb.mono d4.size)).setCell (Nat.le_refl _) _
set_option maxHeartbeats 6400000 in
theorem assign_any {w : World} {v u : Value} {ms l : List Int} (hm : IL w v ms) (hl : IL w u l) (hk : ms.length ≤ 1000) : Calls Try.prog 15 #[v, u] w fun e w' => e = .returned (.slice (some ⟨w.heap.size, 0, none⟩) ms.length ms.length) ∧ AInv w w' l ms.length ms.length := by
  have HL := hid hl
  obtain ⟨a, cap, rfl, hcap, hcm, hnn⟩ : ∃ a cap, u = .slice a l.length cap ∧ l.length ≤ cap ∧ cap ≤ maxLen ∧ (a = none → cap = 0) := by obtain ⟨⟨a, cap, e, h1, h2, h3, _⟩, _⟩ := hl; exact ⟨a, cap, e, h1, h2, h3⟩
  obtain ⟨ma, mcap, rfl⟩ : ∃ ma mcap, v = .slice ma ms.length mcap := by obtain ⟨⟨a, cap, e, _⟩, _⟩ := hm; exact ⟨a, cap, e⟩
  have hfew := hl.few
  clear hl hm
  have HNN := hid hnn
  clear hnn
  generalize ms.length = k at *
  have hmk := make42 w k hk
  obtain ⟨n, hn⟩ : ∃ n, n = l.length := ⟨_, rfl⟩
  have HN := hid hn
  rw [← hn] at hcap hfew ⊢
  clear hn
  go_enter Try.func15, Try.ntmps15
  go_wp2_with fail
  go_loopg [6, 7, 8, 14] k (fun kx s6 s7 s8 s14 wr => ∃ i : Nat, i ≤ k ∧ k - i ≤ kx ∧ s14 = .int .i64 (i : Int) ∧ s6 = .int .i64 (fromN n k i : Int) ∧ Hid (AInv w wr l k i))
  case atStart => exact ⟨0, Nat.zero_le _, by omega, rfl, rfl, AInv.start w l k⟩
  case round =>
    obtain ⟨i, hi, hkx, rfl, rfl, HI⟩ := hrel
    by_cases hlt : i < k
    · have hlt' : (i : Int) < (k : Int) := by omega
      have hk0 : (k : Int) ≠ 0 := by omega
      have HF := hid (from_top n k i hlt)
      have HS1 := hid (show fromN n k (i + 1) = fromN n k i + shareN n k i from rfl)
      have HIL := HL.out
      have hsub := il_sub (HIL.under HI.out.below) (fromN n k i) (shareN n k i) (by rw [← HN.out]; exact HF.out)
      have HSUB : Hid ((cap = fromN n k i → IL wr (.slice a (shareN n k i) 0) (shareL l k i)) ∧ IL wr (.slice (Option.map (fun x => x.add (fromN n k i)) a) (shareN n k i) (cap - fromN n k i)) (shareL l k i)) := by
        have e : shareL l k i = (l.drop (fromN n k i)).take (shareN n k i) := by unfold shareL; rw [← HN.out]
        rw [e]; exact hsub
      clear hsub HIL
      have HNX : Hid (∀ v w1, IL w1 v (shareL l k i) → In (fun b => wr.heap.size ≤ b) v (shareL l k i) → Below wr.heap.size wr w1 → w1.cell? ⟨w.heap.size, i, none⟩ = some noS ∧ w1.frozen? ⟨w.heap.size, i, none⟩ = false ∧ (v.oneCell' = true → AInv w (w1.setCell ⟨w.heap.size, i, none⟩ v) l k (i + 1))) := fun v w1 h1 h2 h3 => HI.out.next hlt h1 h2 h3
      have hfb := HF.out
      generalize hff : fromN n k i = f at *
      have HCL : Hid (∀ v, IL wr v (shareL l k i) → Calls Try.prog 33 #[v] wr fun e w' => ∃ v', e = .returned v' ∧ IL w' v' (shareL l k i) ∧ In (fun b => wr.heap.size ≤ b) v' (shareL l k i) ∧ Below wr.heap.size wr w') := fun v hv => clone_any hv
      clear hff
      generalize shareL l k i = ls at *
      have hd : (n : Int) / (k : Int) = ((n / k : Nat) : Int) := by simp
      by_cases hr : i < n % k
      · have hr' : (i : Int) < (n : Int) % (k : Int) := by omega
        have hs : shareN n k i = n / k + 1 := by unfold shareN; rw [if_pos hr]
        rw [hs] at hfb HSUB HS1
        clear hs
        generalize n / k = d at *
        clear HF
        go_wp2_with fail
        refine (HCL.out _ HSUB.out.2).mono ?_
        rintro e w1 ⟨v', rfl, h1, h2, hb1⟩
        obtain ⟨va, vn, vc, rfl⟩ : ∃ a n c, v' = .slice a n c := by obtain ⟨⟨a, cap, e, _⟩, _⟩ := h1; exact ⟨_, _, _, e⟩
        obtain ⟨g1, g2, g3⟩ := HNX.out _ w1 h1 h2 hb1
        have HN2 := hid (g3 rfl)
        clear h1 h2 hb1 g3 HNX HCL HSUB
        go_wp2_with fail
        go_roundg (k - (i + 1))
        case measure => omega
        case rel => exact ⟨i + 1, by omega, Nat.le_refl _, by go_num, by rw [HS1.out]; go_num, HN2.out⟩
      · have hr' : ¬ (i : Int) < (n : Int) % (k : Int) := by omega
        have hs : shareN n k i = n / k := by unfold shareN; rw [if_neg hr]; rfl
        rw [hs] at hfb HSUB HS1
        clear hs
        have hdb : n / k ≤ n := Nat.div_le_self _ _
        generalize n / k = d at *
        clear HF
        by_cases hcf : cap = f
        · have hS := hid (HSUB.out.1 hcf)
          have hd0 : d = 0 := by omega
          subst hd0
          subst hcf
          have hd : (n : Int) / (k : Int) = 0 := by simpa using hd
          go_wp2_with fail
          all_goals first | (exfalso; omega) | skip
          refine (HCL.out _ hS.out).mono ?_
          rintro e w1 ⟨v', rfl, h1, h2, hb1⟩
          obtain ⟨va, vn, vc, rfl⟩ : ∃ a n c, v' = .slice a n c := by obtain ⟨⟨a, cap, e, _⟩, _⟩ := h1; exact ⟨_, _, _, e⟩
          obtain ⟨g1, g2, g3⟩ := HNX.out _ w1 h1 h2 hb1
          have HN2 := hid (g3 rfl)
          clear h1 h2 hb1 g3 HNX HCL HSUB
          go_wp2_with fail
          go_roundg (k - (i + 1))
          case measure => omega
          case rel => exact ⟨i + 1, by omega, Nat.le_refl _, by go_num, by rw [HS1.out]; go_num, HN2.out⟩
        · go_wp2_with fail
          all_goals first | (exfalso; omega) | skip
          refine (HCL.out _ HSUB.out.2).mono ?_
          rintro e w1 ⟨v', rfl, h1, h2, hb1⟩
          obtain ⟨va, vn, vc, rfl⟩ : ∃ a n c, v' = .slice a n c := by obtain ⟨⟨a, cap, e, _⟩, _⟩ := h1; exact ⟨_, _, _, e⟩
          obtain ⟨g1, g2, g3⟩ := HNX.out _ w1 h1 h2 hb1
          have HN2 := hid (g3 rfl)
          clear h1 h2 hb1 g3 HNX HCL HSUB
          go_wp2_with fail
          go_roundg (k - (i + 1))
          case measure => omega
          case rel => exact ⟨i + 1, by omega, Nat.le_refl _, by go_num, by rw [HS1.out]; go_num, HN2.out⟩
    · have hik : i = k := by omega
      subst hik
      have hlt' : ¬ (i : Int) < (i : Int) := by omega
      go_wp2_with fail
      go_ret
      exact ⟨rfl, HI.out⟩
end Go.Proofs.Ytdnpbhijjmlecaa

/- What a member owns; who owns a partition; its offset. -/
namespace Go.Proofs.Ytdnpbhijjmlecaa
open Go.RowKit Go.Maps
set_option maxRecDepth 100000
set_option linter.unusedSimpArgs false
set_option linter.unusedVariables false

set_option maxHeartbeats 800000 in
theorem offset_any {w : World} {q : Nat} {vm vp vo : Value} {x : Gr} (h : GrR w q vm vp vo x) (n : Int) (hn : I64 n) : Calls Try.prog 36 #[.pointer (some ⟨q, 0, none⟩), .int .i64 n] w fun e w' => e = .returned (.int .i64 (offI x n)) ∧ w = w' := by
  have c4 := h.c4
  have hl := h.look w (Below.refl _ _) n hn
  have HF : Hid (offI x n = if (getO x.offs n).isSome = true then valO x.offs n else -1) := by
    show _ = _
    unfold offI valO
    cases getO x.offs n <;> rfl
  generalize offI x n = B at *
  generalize (getO x.offs n).isSome = b at *
  generalize valO x.offs n = z at *
  clear h
  cases b with
  | true =>
    go_enter Try.func36, Try.ntmps36
    go_wp2_with fail
    go_ret
    exact ⟨ret_int (by rw [HF.out]; rfl), rfl⟩
  | false =>
    go_enter Try.func36, Try.ntmps36
    go_wp2_with fail
    go_ret
    exact ⟨ret_int (by rw [HF.out]; rfl), rfl⟩
/-- The row that Assign made, cell by cell. -/
theorem AInv.cell {w wr : World} {l : List Int} {k : Nat} (h : AInv w wr l k k) (j : Nat) (hj : j < k) : ∃ v, wr.cell? ⟨w.heap.size, j, none⟩ = some v ∧ IL wr v (shareL l k j) ∧ In (fun b => w.heap.size + 1 ≤ b) v (shareL l k j) := by
  obtain ⟨ds, d1, d2, d3, d4⟩ := h
  obtain ⟨g1, g2⟩ := d3 j (by omega)
  exact ⟨ds[j], cell_blk d2 j _ (by rw [List.getElem?_toArray, List.getElem?_append_left (by omega), List.getElem?_eq_getElem]), g1, g2⟩
theorem shareL_mem {l : List Int} {k j : Nat} {y : Int} (h : y ∈ shareL l k j) : y ∈ l := List.mem_of_mem_drop (List.mem_of_mem_take h)
theorem own_skip (x : Gr) (part : Int) : ∀ (r : List Mb) (i : Nat), (∀ j, j < r.length → hasB (shareL x.parts x.mem.length (i + j)) part = false) → ownFrom x part i r = 0
  | [], _, _ => rfl
  | m :: r, i, h => by
    have h0 := h 0 (by simp)
    simp only [Nat.add_zero] at h0
    unfold ownFrom
    rw [h0]
    exact own_skip x part r (i + 1) (fun j hj => by have := h (j + 1) (by simp; omega); rwa [show i + 1 + j = i + (j + 1) by omega])
theorem own_hit (x : Gr) (part : Int) : ∀ (r : List Mb) (i j : Nat) (hj : j < r.length), (∀ t, t < j → hasB (shareL x.parts x.mem.length (i + t)) part = false) → hasB (shareL x.parts x.mem.length (i + j)) part = true → ownFrom x part i r = r[j].id
  | m :: r, i, 0, hj, _, h => by
    unfold ownFrom
    rw [Nat.add_zero] at h
    rw [h]
    rfl
  | m :: r, i, j + 1, hj, hb, h => by
    have h0 := hb 0 (by omega)
    simp only [Nat.add_zero] at h0
    unfold ownFrom
    rw [h0]
    have := own_hit x part r (i + 1) j (by simpa using hj) (fun t ht => by have := hb (t + 1) (by omega); rwa [show i + 1 + t = i + (t + 1) by omega]) (by rwa [show i + 1 + j = i + (j + 1) by omega])
    simpa using this
set_option maxHeartbeats 3200000 in
theorem owner_any {w : World} {q : Nat} {vm vp vo : Value} {x : Gr} (h : GrR w q vm vp vo x) (hf : x.mem.length ≤ 1000) (h64 : ∀ m ∈ x.mem, I64 m.id) (part : Int) (hp : I64 part) : Calls Try.prog 35 #[.pointer (some ⟨q, 0, none⟩), .int .i64 part] w fun e w' => e = .returned (.int .i64 (ownerI x part)) ∧ Below w.heap.size w w' := by
  have HID := hid (ids_any h hf h64)
  have HI := hid h
  have hq := h.lt
  clear h
  go_enter Try.func35, Try.ntmps35
  go_wp2_with fail
  refine HID.out.mono ?_
  rintro e w1 ⟨v1, rfl, h1, h2, hb1⟩
  obtain ⟨a1, cp1, rfl⟩ : ∃ a c, v1 = .slice a (idsL x).length c := by obtain ⟨⟨a, cap, e, _⟩, _⟩ := h1; exact ⟨_, _, e⟩
  have HI1 := hid h1
  have HR1 := hid (HI.out.under hb1)
  have HB1 := hid hb1
  have hlen : (idsL x).length = x.mem.length := by simp [idsL]
  have HAS := hid (assign_any HI1.out HR1.out.parts (by omega))
  have c3 := HR1.out.c3
  obtain ⟨pa, pc, rfl⟩ : ∃ a c, vp = .slice a x.parts.length c := by obtain ⟨⟨a, cap, e, _⟩, _⟩ := HR1.out.parts; exact ⟨_, _, e⟩
  rw [hlen] at HAS ⊢
  have HLEN := hid hlen
  clear h1 h2 hb1 hlen HID
  go_wp2_with fail
  refine HAS.out.mono ?_
  rintro e w2 ⟨rfl, hai⟩
  have HA := hid hai
  have HB2 := hid hai.below
  have hw12 := hai.below.size
  clear hai HAS c3
  generalize hK : x.mem.length = K at *
  have HK := hid hK
  clear hK
  go_wp2_with fail
  go_loopg [6, 7, 17] K (fun kx s6 s7 s17 wr => ∃ k : Nat, k ≤ K ∧ K - k ≤ kx ∧ s17 = .int .i64 (k : Int) ∧ Hid ((∀ t, t < k → hasB (shareL x.parts K t) part = false) ∧ wr = w2))
  case atStart => exact ⟨0, Nat.zero_le _, by omega, rfl, fun t ht => by omega, rfl⟩
  case round =>
    obtain ⟨k, hk, hkx, rfl, HR⟩ := hrel
    obtain ⟨hr1, rfl⟩ := HR.out
    have HRR := hid hr1
    clear hr1 HR
    by_cases hlt : k < K
    · obtain ⟨v, g1, g2, g3⟩ := HA.out.cell k hlt
      have HC := hid (contains_any g2 part hp)
      obtain ⟨va, vn, vc, rfl⟩ : ∃ a n c, v = .slice a n c := by obtain ⟨⟨a, cap, e, _⟩, _⟩ := g2; exact ⟨_, _, _, e⟩
      have hlt' : (k : Int) < (K : Int) := by omega
      have HNX : Hid (hasB (shareL x.parts K k) part = false → ∀ t, t < k + 1 → hasB (shareL x.parts K t) part = false) := fun hn t ht => by
        rcases Nat.lt_or_ge t k with h | h
        · exact HRR.out t h
        · rw [show t = k by omega]; exact hn
      have HHIT : Hid (hasB (shareL x.parts K k) part = true → ∃ m, x.mem[k]? = some m ∧ ownerI x part = m.id) := fun hy => by
        have hl : k < x.mem.length := by rw [HK.out]; exact hlt
        refine ⟨x.mem[k], by simp [hl], ?_⟩
        unfold ownerI
        refine own_hit x part x.mem 0 k hl (fun t ht => ?_) ?_
        · rw [Nat.zero_add, HK.out]; exact HRR.out t ht
        · rw [Nat.zero_add, HK.out]; exact hy
      clear g2 g3
      cases hB : hasB (shareL x.parts K k) part with
      | true =>
        rw [hB] at HC
        obtain ⟨m, hm, ho⟩ := HHIT.out hB
        have hcell : ∃ b off, a1 = some ⟨b, off, none⟩ ∧ wr.cell? ⟨b, off + k, none⟩ = some (.int .i64 m.id) := by
          have hl : k < x.mem.length := by rw [HK.out]; exact hlt
          obtain ⟨⟨a', c', e', _, _, _, hat⟩, _⟩ := HI1.out.under HB2.out
          simp only [Value.slice.injEq] at e'
          have hne : idsL x ≠ [] := fun e => by
            have h0 : (idsL x).length = 0 := by rw [e]; rfl
            rw [HLEN.out] at h0
            omega
          obtain ⟨b, off, e2, _, hc⟩ := hat hne
          have := hc k (by rw [HLEN.out]; exact hlt)
          refine ⟨b, off, e'.1.trans e2, ?_⟩
          rw [this]
          have e3 : x.mem[k] = m := by rw [List.getElem?_eq_getElem hl] at hm; exact Option.some.inj hm
          simp [idsL, e3]
        obtain ⟨b, off, rfl, hc1⟩ := hcell
        have HO := hid ho
        clear hB HHIT HNX hm ho
        go_wp2_with fail
        refine HC.out.mono ?_
        rintro e w3 ⟨rfl, rfl⟩
        go_wp2_with fail
        go_ret
        exact ⟨ret_int HO.out.symm, HB1.out.trans (HB2.out.mono HB1.out.size)⟩
      | false =>
        rw [hB] at HC
        have HN2 := hid (HNX.out hB)
        clear hB HHIT HNX
        go_wp2_with fail
        refine HC.out.mono ?_
        rintro e w3 ⟨rfl, rfl⟩
        go_wp2_with fail
        go_roundg (K - (k + 1))
        case measure => omega
        case rel => exact ⟨k + 1, by omega, Nat.le_refl _, by go_num, HN2.out, rfl⟩
    · have hkk : k = K := by omega
      have hlt' : ¬ (k : Int) < (K : Int) := by omega
      have HZ : Hid (ownerI x part = 0) := own_skip x part x.mem 0 (fun j hj => by rw [Nat.zero_add, HK.out]; rw [HK.out] at hj; exact HRR.out j (by omega))
      clear hkk
      go_wp2_with fail
      go_ret
      exact ⟨ret_int HZ.out.symm, HB1.out.trans (HB2.out.mono HB1.out.size)⟩
end Go.Proofs.Ytdnpbhijjmlecaa

