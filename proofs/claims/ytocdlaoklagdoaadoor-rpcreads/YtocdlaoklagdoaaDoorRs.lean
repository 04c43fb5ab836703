/- Lists that are read. -/
import Derived.Test.YtocdlaoklagdoaaDoorRl
import Derived.Test.YtocdlaoklagdoaaDoorG3
import Derived.Test.YtocdlaoklagdoaaDoorG4
namespace Go.Proofs.YtocdlaoklagdoaaDoor
open Go.RowKit Go.Maps
set_option linter.unusedSimpArgs false
set_option linter.unusedVariables false
set_option maxRecDepth 100000

/-- A reader, and a row of the call's own that grows. -/
structure LAt (w : World) (q T z : Nat) (s1 : RS) (v : Value) (k : Nat) (cells : List Value) (wr : World) : Prop where
  rd : Pd wr q s1
  row : wr.ownsRow w.heap.size T z v k cells
  grown : w.grownBy wr (some q)
  low : q < w.heap.size
theorem LAt.start {w wr : World} {q T z : Nat} {s1 : RS} (hq : q < w.heap.size) (h : Pd wr q s1) (hg : w.grownBy wr (some q)) : LAt w q T z s1 (.slice none 0 0) 0 [] wr := ⟨h, World.ownsRow_nil wr _ T z, hg, hq⟩
theorem LAt.mid {w q T z s1 v k cells wr} (h : LAt w q T z s1 v k cells wr) {w1 : World} (hg1 : wr.grownBy w1 (some q)) (O : Obj) : (w1.alloc O).ownsRow w.heap.size T z v k cells ∧ w.heap.size ≤ w1.heap.size := by
  have hs := h.grown.size
  have hs1 := hg1.size
  have hl := h.low
  refine ⟨ownsRow_kept h.row (fun j hj => ?_), by omega⟩
  obtain ⟨h1, h2⟩ := World.ownsRow.lt h.row j hj
  rw [Below.heap_alloc w1 O j (by omega)]
  exact hg1.block j h2 (fun e => by cases e; omega)
theorem LAt.next {w q T z s1 v k cells wr} (h : LAt w q T z s1 v k cells wr) {w1 w2 : World} {s2 : RS} {v' : Value} {n : Nat} {xs : List Value} {O : Obj} (hr1 : Pd w1 q s2) (hg1 : wr.grownBy w1 (some q)) (hown : w2.ownsRow w.heap.size T z v' n xs) (hg2 : (w1.alloc O).grownBy w2 v.ownBlock) (hat : v'.ownBlock = v.ownBlock ∨ v'.ownBlock = some (w1.alloc O).heap.size) :
    LAt w q T z s2 v' n xs w2 ∧ (∀ j, j < w1.heap.size → v.ownBlock ≠ some j → w2.heap[j]? = w1.heap[j]? ∧ v'.ownBlock ≠ some j) ∧ wr.heap.size ≤ w1.heap.size ∧ w1.heap.size ≤ w2.heap.size := by
  have hs := h.grown.size
  have hs1 := hg1.size
  have hl := h.low
  have hs2 := hg2.size
  simp at hs2
  have hkeep : ∀ j, j < w1.heap.size → v.ownBlock ≠ some j → w2.heap[j]? = w1.heap[j]? ∧ v'.ownBlock ≠ some j := fun j hj hv => by
    refine ⟨(hg2.block j (by simp; omega) (fun e => hv e.symm)).trans (Below.heap_alloc w1 O j hj), ?_⟩
    rcases hat with e | e
    · rw [e]; exact hv
    · rw [e]; intro e2; cases e2
      have : (w1.alloc O).heap.size = w1.heap.size + 1 := by simp
      omega
  have hvq : v.ownBlock ≠ some q := fun e => by have := (World.ownsRow.lt h.row q e).1; omega
  refine ⟨⟨hr1.kept (hkeep q (by omega) hvq).1, hown, ?_, hl⟩, hkeep, hs1, by omega⟩
  refine (h.grown.trans (hg1.trans (World.grownBy_alloc w1 O (some q)))).andThen hg2 (fun j hj => ?_)
  exact .inl (World.ownsRow.lt h.row j hj).1

theorem manyS_length {α : Type} (one : RS → α × RS) : ∀ (n : Nat) (s : RS), (manyS one n s).1.length = n
  | 0, s => rfl
  | n + 1, s => by simp [manyS, manyS_length one n s]

/- Ints. -/
theorem info3 : ∃ i, Tryd.prog.info? 3 = some i ∧ i.zero = some (.int .i64 0) ∧ i.size = 1 ∧ i.bytes = 8 := ⟨_, rfl, rfl, rfl, rfl⟩
theorem info52 : ∃ i, Tryd.prog.info? 52 = some i ∧ i.zero = some (.agg #[.int .i64 0, .int .i64 0, .string ⟨#[]⟩]) ∧ i.size = 3 ∧ i.bytes = 32 := ⟨_, rfl, rfl, rfl, rfl⟩
theorem info50 : ∃ i, Tryd.prog.info? 50 = some i ∧ i.zero = some (.agg #[.int .i64 0, .int .i64 0, .int .i64 0, .int .i64 0, .int .i64 0, .slice none 0 0]) ∧ i.size = 6 ∧ i.bytes = 64 := ⟨_, rfl, rfl, rfl, rfl⟩
/-- Where a list lies, from block c on. -/
def IntsHi (c : Nat) (w : World) (a : Option Addr) (ns : List Int) : Prop := ns = [] ∨ ∃ b off, a = some ⟨b, off, none⟩ ∧ c ≤ b ∧ b < w.heap.size ∧ ∀ i (h : i < ns.length), w.cell? ⟨b, off + i, none⟩ = some (.int .i64 ns[i])
def EntsHi (c : Nat) (w : World) (a : Option Addr) (es : List Ent) : Prop := es = [] ∨ ∃ b off, a = some ⟨b, off, none⟩ ∧ c ≤ b ∧ b < w.heap.size ∧ ∀ i (h : i < es.length), EntCells w b (off + i * 3) es[i]
def BatsHi (c : Nat) (w : World) (a : Option Addr) (bs : List Bat) : Prop := bs = [] ∨ ∃ b off, a = some ⟨b, off, none⟩ ∧ c ≤ b ∧ b < w.heap.size ∧ ∀ i (h : i < bs.length), ∃ ra rc, BatCells w b (off + i * 6) bs[i] ra rc ∧ Recs w (.slice ra bs[i].recs.length rc) bs[i].recs ∧ (bs[i].recs ≠ [] → ∀ j, (Value.slice ra bs[i].recs.length rc).ownBlock = some j → c ≤ j)
theorem Recs.lt {w : World} {v : Value} {rs : List Rec} (h : Recs w v rs) (hn : rs ≠ []) {j : Nat} (hj : v.ownBlock = some j) : j < w.heap.size := by
  obtain ⟨a, cap, e, ha⟩ := h.shape
  rcases ha with ha | ⟨b, off, e2, hl, hc⟩
  · exact absurd ha hn
  · rw [e, e2] at hj; cases hj; exact hl
theorem Recs.off2 {w w' : World} {v : Value} {rs : List Rec} (h : Recs w v rs) (hk : rs ≠ [] → ∀ q, v.ownBlock = some q → w'.heap[q]? = w.heap[q]?) (hs : w.heap.size ≤ w'.heap.size) : Recs w' v rs := by
  obtain ⟨a, cap, e, ha⟩ := h.shape
  refine ⟨⟨a, cap, e, ?_⟩, h.ok, h.len⟩
  by_cases hn : rs = []
  · exact .inl hn
  · rcases ha with ha | ⟨b, off, e2, hl, hc⟩
    · exact .inl ha
    · exact .inr ⟨b, off, e2, Nat.lt_of_lt_of_le hl hs, fun i hi => (hc i hi).under (hk hn b (by rw [e, e2]; rfl))⟩
theorem IntsHi.keep {c : Nat} {w w' : World} {a : Option Addr} {ns : List Int} (h : IntsHi c w a ns) (hk : ∀ j, c ≤ j → j < w.heap.size → w'.heap[j]? = w.heap[j]?) (hs : w.heap.size ≤ w'.heap.size) : IntsHi c w' a ns := by
  rcases h with h | ⟨b, off, e, hl, hb, hc⟩
  · exact .inl h
  · exact .inr ⟨b, off, e, hl, by omega, fun i hi => (World.cell?_of_block (a := ⟨b, off + i, none⟩) (hk b hl hb)).trans (hc i hi)⟩
theorem EntsHi.keep {c : Nat} {w w' : World} {a : Option Addr} {es : List Ent} (h : EntsHi c w a es) (hk : ∀ j, c ≤ j → j < w.heap.size → w'.heap[j]? = w.heap[j]?) (hs : w.heap.size ≤ w'.heap.size) : EntsHi c w' a es := by
  rcases h with h | ⟨b, off, e, hl, hb, hc⟩
  · exact .inl h
  · exact .inr ⟨b, off, e, hl, by omega, fun i hi => (hc i hi).under (hk b hl hb)⟩
theorem BatsHi.keep {c : Nat} {w w' : World} {a : Option Addr} {bs : List Bat} (h : BatsHi c w a bs) (hk : ∀ j, c ≤ j → j < w.heap.size → w'.heap[j]? = w.heap[j]?) (hs : w.heap.size ≤ w'.heap.size) : BatsHi c w' a bs := by
  rcases h with h | ⟨b, off, e, hl, hb, hc⟩
  · exact .inl h
  · refine .inr ⟨b, off, e, hl, by omega, fun i hi => ?_⟩
    obtain ⟨ra, rc, h1, h2, h3⟩ := hc i hi
    exact ⟨ra, rc, h1.under (hk b hl hb), h2.off2 (fun hn q hq => hk q (h3 hn q hq) (h2.lt hn hq)) hs, h3⟩
theorem IntsHi.low {c c' : Nat} {w : World} {a : Option Addr} {ns : List Int} (h : IntsHi c w a ns) (hc : c' ≤ c) : IntsHi c' w a ns := by
  rcases h with h | ⟨b, off, e, hl, r⟩
  · exact .inl h
  · exact .inr ⟨b, off, e, by omega, r⟩
theorem EntsHi.low {c c' : Nat} {w : World} {a : Option Addr} {es : List Ent} (h : EntsHi c w a es) (hc : c' ≤ c) : EntsHi c' w a es := by
  rcases h with h | ⟨b, off, e, hl, r⟩
  · exact .inl h
  · exact .inr ⟨b, off, e, by omega, r⟩
theorem BatsHi.low {c c' : Nat} {w : World} {a : Option Addr} {bs : List Bat} (h : BatsHi c w a bs) (hc : c' ≤ c) : BatsHi c' w a bs := by
  rcases h with h | ⟨b, off, e, hl, hb, hc2⟩
  · exact .inl h
  · refine .inr ⟨b, off, e, by omega, hb, fun i hi => ?_⟩
    obtain ⟨ra, rc, h1, h2, h3⟩ := hc2 i hi
    exact ⟨ra, rc, h1, h2, fun hn j hj => by have := h3 hn j hj; omega⟩
theorem IntsHi.at {c : Nat} {w : World} {a : Option Addr} {ns : List Int} (h : IntsHi c w a ns) : IntsAt w a w.heap.size ns := by
  rcases h with h | ⟨b, off, e, _, hb, hc⟩
  · exact .inl h
  · exact .inr ⟨b, off, e, hb, hc⟩
theorem EntsHi.at {c : Nat} {w : World} {a : Option Addr} {es : List Ent} (h : EntsHi c w a es) : EntsAt w a es := by
  rcases h with h | ⟨b, off, e, _, hb, hc⟩
  · exact .inl h
  · exact .inr ⟨b, off, e, hb, hc⟩
theorem BatsHi.at {c : Nat} {w : World} {a : Option Addr} {bs : List Bat} (h : BatsHi c w a bs) : BatsAt w a bs := by
  rcases h with h | ⟨b, off, e, _, hb, hc⟩
  · exact .inl h
  · refine .inr ⟨b, off, e, hb, fun i hi => ?_⟩
    obtain ⟨ra, rc, h1, h2, _⟩ := hc i hi
    exact ⟨ra, rc, h1, h2⟩

theorem lt_of_row {w : World} {g : Nat} {O : Obj} (h : w.heap[g]? = some O) : g < w.heap.size := by
  rcases Nat.lt_or_ge g w.heap.size with h1 | h1
  · exact h1
  · rw [Array.getElem?_eq_none h1] at h; cases h
theorem row_cell {w : World} {g z n : Nat} {cur : Array Value} {T : TypeId} {xs : List Value} (hg : w.heap[g]? = some (.cells cur T)) (ht : cur.toList.take (n * z) = xs) (j : Nat) (hj : j < n * z) (u : Value) (hu : xs[j]? = some u) : w.cell? ⟨g, j, none⟩ = some u := by
  refine cell_blk hg j u ?_
  rw [← ht, List.getElem?_take, if_pos hj] at hu
  simpa using hu
theorem ints_of_row {w : World} {B : Nat} {v : Value} {ns : List Int} (h : w.ownsRow B 3 1 v ns.length (ic ns)) : ∃ a cap, v = .slice a ns.length cap ∧ IntsHi B w a ns := by
  obtain ⟨_, h2⟩ := h
  rcases h2 with ⟨rfl, hn⟩ | ⟨g, cap, cur, rfl, hB, hg, hc, hm, hs, ht⟩
  · exact ⟨none, 0, by rw [hn], .inl (List.eq_nil_of_length_eq_zero hn)⟩
  · refine ⟨_, cap, rfl, .inr ⟨g, 0, rfl, hB, lt_of_row hg, fun i hi => ?_⟩⟩
    rw [Nat.zero_add]
    exact row_cell hg ht i (by omega) _ (by simp [ic, hi])
def entC (e : Ent) : List Value := [.int .i64 e.term, .int .i64 e.index, .string (strOf e.data)]
def flatE : List Ent → List Value
  | [] => []
  | r :: s => entC r ++ flatE s
theorem flatE_append : ∀ l m : List Ent, flatE (l ++ m) = flatE l ++ flatE m
  | [], m => rfl
  | r :: s, m => by simp [flatE, flatE_append s m]
theorem flatE_at : ∀ (l : List Ent) (i : Nat) (h : i < l.length) (j : Nat), j < 3 → (flatE l)[i * 3 + j]? = (entC l[i])[j]?
  | r :: s, 0, _, j, hj => by simp [flatE]; rw [List.getElem?_append_left (by simp [entC]; omega)]
  | r :: s, i + 1, h, j, hj => by
    have ih := flatE_at s i (by simpa using h) j hj
    show (entC r ++ flatE s)[(i + 1) * 3 + j]? = _
    rw [List.getElem?_append_right (by simp [entC]; omega)]
    simp only [entC, List.length_cons, List.length_nil, List.getElem_cons_succ]
    rw [show (i + 1) * 3 + j - (0 + 1 + 1 + 1) = i * 3 + j by omega]
    exact ih
theorem ent_news {w1 : World} {b : Nat} (r : Ent) (hb : b = w1.heap.size) : ∀ (j : Nat) (u : Value), (entC r)[j]? = some u → (w1.alloc (.cells #[.int .i64 r.term, .int .i64 r.index, .string (strOf r.data)] 52)).cell? ((⟨b, 0, none⟩ : Addr).add j) = some u := fun j u hu => by
  have hadd : (⟨b, 0, none⟩ : Addr).add j = ⟨b, j, none⟩ := by unfold Addr.add; split <;> simp_all
  rw [hadd]
  exact cell_new hb (by simpa [entC] using hu)
theorem ents_of_row {w : World} {B : Nat} {v : Value} {es : List Ent} (h : w.ownsRow B 52 3 v es.length (flatE es)) : ∃ a cap, v = .slice a es.length cap ∧ EntsHi B w a es := by
  obtain ⟨_, h2⟩ := h
  rcases h2 with ⟨rfl, hn⟩ | ⟨g, cap, cur, rfl, hB, hg, hc, hm, hs, ht⟩
  · exact ⟨none, 0, by rw [hn], .inl (List.eq_nil_of_length_eq_zero hn)⟩
  · refine ⟨_, cap, rfl, .inr ⟨g, 0, rfl, hB, lt_of_row hg, fun i hi => ?_⟩⟩
    rw [Nat.zero_add]
    exact ⟨row_cell hg ht (i * 3 + 0) (by omega) _ (by rw [flatE_at es i hi 0 (by omega)]; rfl), row_cell hg ht (i * 3 + 1) (by omega) _ (by rw [flatE_at es i hi 1 (by omega)]; rfl), row_cell hg ht (i * 3 + 2) (by omega) _ (by rw [flatE_at es i hi 2 (by omega)]; rfl)⟩
def batC (x : Bat × Option Addr × Nat) : List Value := [.int .i64 x.1.base, .int .i64 x.1.epoch, .int .i64 x.1.pid, .int .i64 x.1.pidEpoch, .int .i64 x.1.seq, .slice x.2.1 x.1.recs.length x.2.2]
def flatX : List (Bat × Option Addr × Nat) → List Value
  | [] => []
  | r :: s => batC r ++ flatX s
theorem flatX_append : ∀ l m : List (Bat × Option Addr × Nat), flatX (l ++ m) = flatX l ++ flatX m
  | [], m => rfl
  | r :: s, m => by simp [flatX, flatX_append s m]
theorem flatX_at : ∀ (l : List (Bat × Option Addr × Nat)) (i : Nat) (h : i < l.length) (j : Nat), j < 6 → (flatX l)[i * 6 + j]? = (batC l[i])[j]?
  | r :: s, 0, _, j, hj => by simp [flatX]; rw [List.getElem?_append_left (by simp [batC]; omega)]
  | r :: s, i + 1, h, j, hj => by
    have ih := flatX_at s i (by simpa using h) j hj
    show (batC r ++ flatX s)[(i + 1) * 6 + j]? = _
    rw [List.getElem?_append_right (by simp [batC]; omega)]
    simp only [batC, List.length_cons, List.length_nil, List.getElem_cons_succ]
    rw [show (i + 1) * 6 + j - (0 + 1 + 1 + 1 + 1 + 1 + 1) = i * 6 + j by omega]
    exact ih
theorem bat_news {w1 : World} {b : Nat} (r : Bat × Option Addr × Nat) (hb : b = w1.heap.size) : ∀ (j : Nat) (u : Value), (batC r)[j]? = some u → (w1.alloc (.cells #[.int .i64 r.1.base, .int .i64 r.1.epoch, .int .i64 r.1.pid, .int .i64 r.1.pidEpoch, .int .i64 r.1.seq, .slice r.2.1 r.1.recs.length r.2.2] 50)).cell? ((⟨b, 0, none⟩ : Addr).add j) = some u := fun j u hu => by
  have hadd : (⟨b, 0, none⟩ : Addr).add j = ⟨b, j, none⟩ := by unfold Addr.add; split <;> simp_all
  rw [hadd]
  exact cell_new hb (by simpa [batC] using hu)
/-- The records of the batches of a row. -/
def XRecs (B : Nat) (w : World) (v : Value) (xs : List (Bat × Option Addr × Nat)) : Prop := ∀ x ∈ xs, Recs w (.slice x.2.1 x.1.recs.length x.2.2) x.1.recs ∧ (x.1.recs ≠ [] → ∀ j, (Value.slice x.2.1 x.1.recs.length x.2.2).ownBlock = some j → B ≤ j ∧ v.ownBlock ≠ some j)
theorem bats_of_row {w : World} {B : Nat} {v : Value} {xs : List (Bat × Option Addr × Nat)} {bs : List Bat} (hm : xs.map Prod.fst = bs) (h : w.ownsRow B 50 6 v bs.length (flatX xs)) (hx : XRecs B w v xs) : ∃ a cap, v = .slice a bs.length cap ∧ BatsHi B w a bs := by
  obtain ⟨_, h2⟩ := h
  rcases h2 with ⟨rfl, hn⟩ | ⟨g, cap, cur, rfl, hB, hg, hc, hmx, hs, ht⟩
  · exact ⟨none, 0, by rw [hn], .inl (List.eq_nil_of_length_eq_zero hn)⟩
  · refine ⟨_, cap, rfl, .inr ⟨g, 0, rfl, hB, lt_of_row hg, fun i hi => ?_⟩⟩
    rw [Nat.zero_add]
    have hlx : xs.length = bs.length := by rw [← hm]; simp
    have hix : i < xs.length := by omega
    have e : bs[i] = xs[i].1 := by subst hm; simp
    rw [e]
    obtain ⟨r1, r2⟩ := hx xs[i] (List.getElem_mem hix)
    refine ⟨xs[i].2.1, xs[i].2.2, ⟨?_, ?_, ?_, ?_, ?_, ?_⟩, r1, fun hn j hj => (r2 hn j hj).1⟩
    · exact row_cell hg ht (i * 6 + 0) (by omega) _ (by rw [flatX_at xs i hix 0 (by omega)]; rfl)
    · exact row_cell hg ht (i * 6 + 1) (by omega) _ (by rw [flatX_at xs i hix 1 (by omega)]; rfl)
    · exact row_cell hg ht (i * 6 + 2) (by omega) _ (by rw [flatX_at xs i hix 2 (by omega)]; rfl)
    · exact row_cell hg ht (i * 6 + 3) (by omega) _ (by rw [flatX_at xs i hix 3 (by omega)]; rfl)
    · exact row_cell hg ht (i * 6 + 4) (by omega) _ (by rw [flatX_at xs i hix 4 (by omega)]; rfl)
    · exact row_cell hg ht (i * 6 + 5) (by omega) _ (by rw [flatX_at xs i hix 5 (by omega)]; rfl)

set_option maxHeartbeats 1600000 in
theorem list60_any {w : World} {q : Nat} {s : RS} (h : Pd w q s) : Calls Tryd.prog 60 #[.pointer (some ⟨q, 0, none⟩), .int .i64 256, .func (.func 51) #[] #[]] w fun e w' => ∃ a cap, e = .returned (.slice a (listS 256 numS s).1.length cap) ∧ Pd w' q (listS 256 numS s).2 ∧ w.grownBy w' (some q) ∧ IntsHi w.heap.size w' a (listS 256 numS s).1 := by
  have H80 := hid (pcount_any h 256 (by omega))
  have hrg := countS_range 256 s (by omega)
  have hlt := h.lt
  have HN : Hid (listS 256 numS s = manyS numS (countS 256 s).1.toNat (countS 256 s).2) := rfl
  clear h
  generalize countS 256 s = C at *
  obtain ⟨n0, s0⟩ := C
  simp only at *
  obtain ⟨n, rfl⟩ := Int.eq_ofNat_of_zero_le hrg.1
  obtain ⟨_, hn⟩ := hrg
  have HN2 : Hid (listS 256 numS s = manyS numS n s0) := by show _ = _; rw [HN.out]; simp
  clear HN
  obtain ⟨i0, hi0, hz0, hz1, hz2⟩ := info3
  go_enter Tryd.func60, Tryd.ntmps60
  go_wp2_with (go_at_call 80; refine H80.out.mono ?_; rintro e w9 ⟨rfl, hr9, hg9⟩)
  have H0 : Hid (LAt w q 3 1 (manyS numS 0 s0).2 (.slice none 0 0) 0 (ic (manyS numS 0 s0).1) w9) := LAt.start hlt hr9 hg9
  clear hr9 hg9 H80
  go_loopg [7, 11] n (fun kx s7 s11 wr => ∃ (k : Nat) (sv : Value), k ≤ n ∧ n - k ≤ kx ∧ s11 = .int .i64 k ∧ sv = s7 ∧ Hid (LAt w q 3 1 (manyS numS k s0).2 sv k (ic (manyS numS k s0).1) wr))
  case atStart => exact ⟨0, _, by omega, by omega, rfl, rfl, H0⟩
  case round =>
    obtain ⟨k, sv, hk, hkx, rfl, rfl, HD⟩ := hrel
    clear H0
    by_cases hltn : k < n
    · have hlt' : (k : Int) < (n : Int) := by omega
      have HC := hid (pnum_any HD.out.rd)
      have HM := hid (fun w1 hg1 O => HD.out.mid (w1 := w1) hg1 O)
      have HX := hid (fun w1 w2 v' xs O a1 a2 a3 a4 a5 => (HD.out.next (w1 := w1) (w2 := w2) (s2 := (numS (manyS numS k s0).2).2) (v' := v') (n := k + 1) (xs := xs) (O := O) a1 a2 a3 a4 a5).1)
      have HT : Hid (ic (manyS numS (k + 1) s0).1 = ic (manyS numS k s0).1 ++ [.int .i64 (numS (manyS numS k s0).2).1]) := by show _ = _; simp [ic, manyS]
      have HT2 : Hid ((manyS numS (k + 1) s0).2 = (numS (manyS numS k s0).2).2) := rfl
      generalize ic (manyS numS k s0).1 = F at *
      generalize numS (manyS numS k s0).2 = N at *
      obtain ⟨X, s1⟩ := N
      simp only at *
      go_wp2_with (first | (go_at_call 51; refine HC.out.mono ?_; rintro e w1 ⟨rfl, hr1, hg1⟩) | (at_builtin; refine wpList_append_own_at _ rfl _ _ 25 rfl w.heap.size 3 i0 _ 1 8 Tryd.underlying25 hi0 hz0 hz1 hz2 rfl (by decide) _ k F rfl (HM.out w1 hg1 _).1 ⟨w1.heap.size, 0, none⟩ 1 1 [.int .i64 X] rfl rfl (one_cell rfl) (by simp [Value.oneCell']) (by unfold maxLen; omega) (by omega) (by simp; have := (HM.out w1 hg1 (.cells #[] 0)).2; omega) ?_; intro v' w2 hown2 hg2 _ hat))
      have HF := hid (HX.out w1 w2 v' _ _ hr1 hg1 hown2 hg2 hat)
      go_roundg (n - (k + 1))
      case measure => omega
      case rel => exact ⟨k + 1, v', by omega, Nat.le_refl _, by go_num, rfl, by rw [HT.out, HT2.out]; exact HF.out⟩
    · have hlt' : ¬ (k : Int) < (n : Int) := by omega
      have hkn : k = n := by omega
      subst hkn
      have hlen := manyS_length numS k s0
      have hrow : wr.ownsRow w.heap.size 3 1 sv (manyS numS k s0).1.length (ic (manyS numS k s0).1) := by rw [hlen]; exact HD.out.row
      obtain ⟨a, cap, hv, hhi⟩ := ints_of_row hrow
      have HH := hid hhi
      clear hrow hhi
      rw [← HN2.out] at hv HH hlen
      have HR := hid HD.out.rd
      rw [← HN2.out] at HR
      have HG := hid HD.out.grown
      clear HD
      subst hv
      go_wp2
      go_ret
      exact ⟨a, ⟨cap, rfl⟩, HR.out, HG.out, HH.out⟩

set_option maxHeartbeats 1600000 in
theorem list58_any {w : World} {q : Nat} {s : RS} (h : Pd w q s) : Calls Tryd.prog 58 #[.pointer (some ⟨q, 0, none⟩), .int .i64 64, .func (.func 59) #[] #[]] w fun e w' => ∃ a cap, e = .returned (.slice a (listS 64 entS s).1.length cap) ∧ Pd w' q (listS 64 entS s).2 ∧ w.grownBy w' (some q) ∧ EntsHi w.heap.size w' a (listS 64 entS s).1 := by
  have H80 := hid (pcount_any h 64 (by omega))
  have hrg := countS_range 64 s (by omega)
  have hlt := h.lt
  have HN : Hid (listS 64 entS s = manyS entS (countS 64 s).1.toNat (countS 64 s).2) := rfl
  clear h
  generalize countS 64 s = C at *
  obtain ⟨n0, s0⟩ := C
  simp only at *
  obtain ⟨n, rfl⟩ := Int.eq_ofNat_of_zero_le hrg.1
  obtain ⟨_, hn⟩ := hrg
  have HN2 : Hid (listS 64 entS s = manyS entS n s0) := by show _ = _; rw [HN.out]; simp
  clear HN
  obtain ⟨i0, hi0, hz0, hz1, hz2⟩ := info52
  go_enter Tryd.func58, Tryd.ntmps58
  go_wp2_with (go_at_call 80; refine H80.out.mono ?_; rintro e w9 ⟨rfl, hr9, hg9⟩)
  have H0 : Hid (LAt w q 52 3 (manyS entS 0 s0).2 (.slice none 0 0) 0 (flatE (manyS entS 0 s0).1) w9) := LAt.start hlt hr9 hg9
  clear hr9 hg9 H80
  go_loopg [7, 11] n (fun kx s7 s11 wr => ∃ (k : Nat) (sv : Value), k ≤ n ∧ n - k ≤ kx ∧ s11 = .int .i64 k ∧ sv = s7 ∧ Hid (LAt w q 52 3 (manyS entS k s0).2 sv k (flatE (manyS entS k s0).1) wr))
  case atStart => exact ⟨0, _, by omega, by omega, rfl, rfl, H0⟩
  case round =>
    obtain ⟨k, sv, hk, hkx, rfl, rfl, HD⟩ := hrel
    clear H0
    by_cases hltn : k < n
    · have hlt' : (k : Int) < (n : Int) := by omega
      have HC := hid (entry_any HD.out.rd)
      have HM := hid (fun w1 hg1 O => HD.out.mid (w1 := w1) hg1 O)
      have HX := hid (fun w1 w2 v' xs O a1 a2 a3 a4 a5 => (HD.out.next (w1 := w1) (w2 := w2) (s2 := (entS (manyS entS k s0).2).2) (v' := v') (n := k + 1) (xs := xs) (O := O) a1 a2 a3 a4 a5).1)
      have HT : Hid (flatE (manyS entS (k + 1) s0).1 = flatE (manyS entS k s0).1 ++ (entC (entS (manyS entS k s0).2).1)) := by show _ = _; simp only [manyS, flatE_append, flatE, List.append_nil]
      have HT2 : Hid ((manyS entS (k + 1) s0).2 = (entS (manyS entS k s0).2).2) := rfl
      generalize flatE (manyS entS k s0).1 = F at *
      generalize entS (manyS entS k s0).2 = N at *
      obtain ⟨X, s1⟩ := N
      simp only at *
      go_wp2_with (first | (go_at_call 59; refine HC.out.mono ?_; rintro e w1 ⟨rfl, hr1, hg1⟩) | (at_builtin; refine wpList_append_own_at _ rfl _ _ 24 rfl w.heap.size 52 i0 _ 3 32 Tryd.underlying24 hi0 hz0 hz1 hz2 rfl (by decide) _ k F rfl (HM.out w1 hg1 _).1 ⟨w1.heap.size, 0, none⟩ 1 1 (entC X) rfl rfl (ent_news X rfl) (by simp [Value.oneCell', entC]) (by unfold maxLen; omega) (by omega) (by simp; have := (HM.out w1 hg1 (.cells #[] 0)).2; omega) ?_; intro v' w2 hown2 hg2 _ hat))
      have HF := hid (HX.out w1 w2 v' _ _ hr1 hg1 hown2 hg2 hat)
      go_roundg (n - (k + 1))
      case measure => omega
      case rel => exact ⟨k + 1, v', by omega, Nat.le_refl _, by go_num, rfl, by rw [HT.out, HT2.out]; exact HF.out⟩
    · have hlt' : ¬ (k : Int) < (n : Int) := by omega
      have hkn : k = n := by omega
      subst hkn
      have hlen := manyS_length entS k s0
      have hrow : wr.ownsRow w.heap.size 52 3 sv (manyS entS k s0).1.length (flatE (manyS entS k s0).1) := by rw [hlen]; exact HD.out.row
      obtain ⟨a, cap, hv, hhi⟩ := ents_of_row hrow
      have HH := hid hhi
      clear hrow hhi
      rw [← HN2.out] at hv HH hlen
      have HR := hid HD.out.rd
      rw [← HN2.out] at HR
      have HG := hid HD.out.grown
      clear HD
      subst hv
      go_wp2
      go_ret
      exact ⟨a, ⟨cap, rfl⟩, HR.out, HG.out, HH.out⟩

set_option maxHeartbeats 1600000 in
theorem list56_any {w : World} {q : Nat} {s : RS} (h : Pd w q s) : Calls Tryd.prog 56 #[.pointer (some ⟨q, 0, none⟩), .int .i64 64, .func (.func 57) #[] #[]] w fun e w' => ∃ a cap, e = .returned (.slice a (listS 64 batS s).1.length cap) ∧ Pd w' q (listS 64 batS s).2 ∧ w.grownBy w' (some q) ∧ BatsHi w.heap.size w' a (listS 64 batS s).1 := by
  have H80 := hid (pcount_any h 64 (by omega))
  have hrg := countS_range 64 s (by omega)
  have hlt := h.lt
  have HN : Hid (listS 64 batS s = manyS batS (countS 64 s).1.toNat (countS 64 s).2) := rfl
  clear h
  generalize countS 64 s = C at *
  obtain ⟨n0, s0⟩ := C
  simp only at *
  obtain ⟨n, rfl⟩ := Int.eq_ofNat_of_zero_le hrg.1
  obtain ⟨_, hn⟩ := hrg
  have HN2 : Hid (listS 64 batS s = manyS batS n s0) := by show _ = _; rw [HN.out]; simp
  clear HN
  obtain ⟨i0, hi0, hz0, hz1, hz2⟩ := info50
  go_enter Tryd.func56, Tryd.ntmps56
  go_wp2_with (go_at_call 80; refine H80.out.mono ?_; rintro e w9 ⟨rfl, hr9, hg9⟩)
  have H0 : Hid (LAt w q 50 6 (manyS batS 0 s0).2 (.slice none 0 0) 0 (flatX []) w9 ∧ ([] : List (Bat × Option Addr × Nat)).map Prod.fst = (manyS batS 0 s0).1 ∧ XRecs w.heap.size w9 (.slice none 0 0) []) := ⟨LAt.start hlt hr9 hg9, rfl, fun x hx => by simp at hx⟩
  clear hr9 hg9 H80
  go_loopg [7, 11] n (fun kx s7 s11 wr => ∃ (k : Nat) (sv : Value) (xs : List (Bat × Option Addr × Nat)), k ≤ n ∧ n - k ≤ kx ∧ s11 = .int .i64 k ∧ sv = s7 ∧ Hid (LAt w q 50 6 (manyS batS k s0).2 sv k (flatX xs) wr ∧ xs.map Prod.fst = (manyS batS k s0).1 ∧ XRecs w.heap.size wr sv xs))
  case atStart => exact ⟨0, _, [], by omega, by omega, rfl, rfl, H0⟩
  case round =>
    obtain ⟨k, sv, xs, hk, hkx, rfl, rfl, HD⟩ := hrel
    clear H0
    by_cases hltn : k < n
    · have hlt' : (k : Int) < (n : Int) := by omega
      have HC := hid (pBatch_any HD.out.1.rd)
      have HM := hid (fun w1 hg1 O => HD.out.1.mid (w1 := w1) hg1 O)
      have HX := hid (fun w1 w2 v' ys O a1 a2 a3 a4 a5 => HD.out.1.next (w1 := w1) (w2 := w2) (s2 := (batS (manyS batS k s0).2).2) (v' := v') (n := k + 1) (xs := ys) (O := O) a1 a2 a3 a4 a5)
      have HT : Hid ((manyS batS (k + 1) s0).1 = (manyS batS k s0).1 ++ [(batS (manyS batS k s0).2).1]) := rfl
      have HT2 : Hid ((manyS batS (k + 1) s0).2 = (batS (manyS batS k s0).2).2) := rfl
      generalize batS (manyS batS k s0).2 = N at *
      obtain ⟨X, s1⟩ := N
      simp only at *
      go_wp2_with (first | (go_at_call 57; refine HC.out.mono ?_; rintro e w1 ⟨ra, rc, rfl, hr1, hg1, hrec, hown⟩) | (at_builtin; refine wpList_append_own_at _ rfl _ _ 23 rfl w.heap.size 50 i0 _ 6 64 Tryd.underlying23 hi0 hz0 hz1 hz2 rfl (by decide) _ k (flatX xs) rfl (HM.out w1 hg1 _).1 ⟨w1.heap.size, 0, none⟩ 1 1 (batC (X, ra, rc)) rfl rfl (bat_news (X, ra, rc) rfl) (by simp [Value.oneCell', batC]) (by unfold maxLen; omega) (by omega) (by simp; have := (HM.out w1 hg1 (.cells #[] 0)).2; omega) ?_; intro v' w2 hown2 hg2 _ hat))
      have HF := hid (HX.out w1 w2 v' _ _ hr1 hg1 hown2 hg2 hat)
      have HO : Hid (LAt w q 50 6 (manyS batS (k + 1) s0).2 v' (k + 1) (flatX (xs ++ [(X, ra, rc)])) w2 ∧ (xs ++ [(X, ra, rc)]).map Prod.fst = (manyS batS (k + 1) s0).1 ∧ XRecs w.heap.size w2 v' (xs ++ [(X, ra, rc)])) := by
        obtain ⟨n1, n2, n3, n4⟩ := HF.out
        have hgr := HD.out.1.grown.size
        have hlw := HD.out.1.low
        refine ⟨?_, ?_, fun x hx => ?_⟩
        · rw [HT2.out, flatX_append]; simpa only [flatX, List.append_nil] using n1
        · rw [HT.out, List.map_append, HD.out.2.1]; rfl
        · rcases List.mem_append.1 hx with hx | hx
          · obtain ⟨r1, r2⟩ := HD.out.2.2 x hx
            have hk : x.1.recs ≠ [] → ∀ j, (Value.slice x.2.1 x.1.recs.length x.2.2).ownBlock = some j → w2.heap[j]? = wr.heap[j]? ∧ v'.ownBlock ≠ some j := fun hn j hj => by
              have hjl := r1.lt hn hj
              obtain ⟨b1, b2⟩ := r2 hn j hj
              obtain ⟨c1, c2⟩ := n2 j (by omega) b2
              exact ⟨c1.trans (hg1.block j hjl (fun e => by cases e; omega)), c2⟩
            exact ⟨r1.off2 (fun hn j hj => (hk hn j hj).1) (by omega), fun hn j hj => ⟨(r2 hn j hj).1, (hk hn j hj).2⟩⟩
          · have hx' : x = (X, ra, rc) := by simpa using hx
            subst hx'
            have hk : X.recs ≠ [] → ∀ j, (Value.slice ra X.recs.length rc).ownBlock = some j → w2.heap[j]? = w1.heap[j]? ∧ v'.ownBlock ≠ some j := fun hn j hj => by
              have hjl := hrec.lt hn hj
              have hjh := hown j hj
              exact n2 j hjl (fun e => by have := (World.ownsRow.lt HD.out.1.row j e).2; omega)
            exact ⟨hrec.off2 (fun hn j hj => (hk hn j hj).1) (by omega), fun hn j hj => ⟨by have := hown j hj; omega, (hk hn j hj).2⟩⟩
      go_roundg (n - (k + 1))
      case measure => omega
      case rel => exact ⟨k + 1, v', _, by omega, Nat.le_refl _, by go_num, rfl, HO⟩
    · have hlt' : ¬ (k : Int) < (n : Int) := by omega
      have hkn : k = n := by omega
      subst hkn
      have hlen := manyS_length batS k s0
      have hrow : wr.ownsRow w.heap.size 50 6 sv (manyS batS k s0).1.length (flatX xs) := by rw [hlen]; exact HD.out.1.row
      obtain ⟨a, cap, hv, hhi⟩ := bats_of_row HD.out.2.1 hrow HD.out.2.2
      have HH := hid hhi
      clear hrow hhi
      rw [← HN2.out] at hv HH hlen
      have HR := hid HD.out.1.rd
      rw [← HN2.out] at HR
      have HG := hid HD.out.1.grown
      clear HD
      subst hv
      go_wp2
      go_ret
      exact ⟨a, ⟨cap, rfl⟩, HR.out, HG.out, HH.out⟩
end Go.Proofs.YtocdlaoklagdoaaDoor
