/- A log in memory; answered: is an answer one that a log may give? -/
import Derived.Test.YtkdbclnnmpnfgaaH14
namespace Go.Proofs.Ytkdbclnnmpnfgaa
open Go.RowKit Go.Maps
set_option maxRecDepth 100000
set_option linter.unusedSimpArgs false
set_option linter.unusedVariables false

def lcells (p : Lg × Nat) : List Value := [.int .i64 p.1.base, .int .i64 0, .int .i64 p.1.pid, .int .i64 p.1.ep, .int .i64 p.1.seq, .slice (some ⟨p.2, 0, none⟩) p.1.n p.1.n]
def flatL : List (Lg × Nat) → List Value
  | [] => []
  | p :: r => lcells p ++ flatL r
theorem flatL_length : ∀ l : List (Lg × Nat), (flatL l).length = l.length * 6
  | [] => rfl
  | m :: r => by simp [flatL, lcells, flatL_length r]; omega
theorem flatL_append : ∀ l m : List (Lg × Nat), flatL (l ++ m) = flatL l ++ flatL m
  | [], m => rfl
  | x :: r, m => by simp [flatL, flatL_append r m]
theorem flatL_take : ∀ (l : List (Lg × Nat)) (k : Nat), flatL (l.take k) = (flatL l).take (k * 6)
  | [], k => by simp [flatL]
  | x :: r, 0 => by simp [flatL]
  | x :: r, k + 1 => by
    have e : (k + 1) * 6 = k * 6 + 1 + 1 + 1 + 1 + 1 + 1 := by omega
    rw [e]
    simp [flatL, lcells, flatL_take r k]
theorem flatL_at : ∀ (l : List (Lg × Nat)) (i : Nat) (p : Lg × Nat), l[i]? = some p → ∀ j u, (lcells p)[j]? = some u → (flatL l)[i * 6 + j]? = some u
  | [], i, m, h => by simp at h
  | y :: r, 0, m, h => by
    intro j u hu
    simp at h; subst h
    have hj := (List.getElem?_eq_some_iff.1 hu).1
    simp only [flatL, Nat.zero_mul, Nat.zero_add]
    rw [List.getElem?_append_left hj]
    exact hu
  | y :: r, i + 1, m, h => by
    intro j u hu
    have ih := flatL_at r i m (by simpa using h) j u hu
    have e1 : (i + 1) * 6 + j = 6 + (i * 6 + j) := by omega
    rw [e1]
    show (lcells y ++ flatL r)[6 + (i * 6 + j)]? = _
    rw [List.getElem?_append_right (by simp [lcells])]
    rw [← ih]
    congr 1
    simp [lcells]
theorem lcells_one (p : Lg × Nat) : ∀ u ∈ lcells p, u.oneCell' = true := by
  intro u hu
  simp [lcells] at hu
  rcases hu with rfl | rfl | rfl | rfl | rfl | rfl <;> rfl
theorem info33 : ∃ i, Try.prog.info? 33 = some i ∧ i.zero = some (.agg #[.int .i64 0, .int .i64 0, .int .i64 0, .int .i64 0, .int .i64 0, .slice none 0 0]) ∧ i.size = 6 ∧ i.bytes = 64 := ⟨_, rfl, rfl, rfl, rfl⟩

/-- A log in memory. -/
def LR (w : World) (B : Nat) (v : Value) (l : List (Lg × Nat)) : Prop := w.ownsRow B 33 6 v l.length (flatL l)
theorem LR.nil (w : World) (B : Nat) : LR w B (.slice none 0 0) [] := ⟨rfl, .inl ⟨rfl, rfl⟩⟩
theorem LR.shape {w : World} {B : Nat} {v : Value} {l : List (Lg × Nat)} (h : LR w B v l) : ∃ oa cap, v = .slice oa l.length cap ∧ l.length ≤ cap ∧ cap ≤ maxLen ∧ (oa = none → cap = 0) ∧ (0 < l.length → ∃ g, oa = some ⟨g, 0, none⟩) := by
  obtain ⟨_, ⟨e, h0⟩ | ⟨g, cap, cur, e, hb, hg, hn, hc, hs, ht⟩⟩ := h
  · exact ⟨none, 0, by rw [e, h0], by omega, Nat.zero_le _, fun _ => rfl, fun h => by omega⟩
  · exact ⟨some ⟨g, 0, none⟩, cap, e, hn, hc, (fun h => by cases h), fun _ => ⟨g, rfl⟩⟩
theorem LR.at_ {w : World} {B g n cap : Nat} {l : List (Lg × Nat)} (h : LR w B (.slice (some ⟨g, 0, none⟩) n cap) l) (i : Nat) (p : Lg × Nat) (hx : l[i]? = some p) :
    w.cell? ⟨g, i * 6, none⟩ = some (.int .i64 p.1.base) ∧ w.cell? ⟨g, i * 6 + 1, none⟩ = some (.int .i64 0) ∧ w.cell? ⟨g, i * 6 + 2, none⟩ = some (.int .i64 p.1.pid) ∧ w.cell? ⟨g, i * 6 + 3, none⟩ = some (.int .i64 p.1.ep) ∧ w.cell? ⟨g, i * 6 + 4, none⟩ = some (.int .i64 p.1.seq) ∧ w.cell? ⟨g, i * 6 + 5, none⟩ = some (.slice (some ⟨p.2, 0, none⟩) p.1.n p.1.n) := by
  have hc : ∀ j u, (lcells p)[j]? = some u → w.cell? ⟨g, i * 6 + j, none⟩ = some u := fun j u hu => by
    have := World.ownsRow.cells h (g := g) rfl _ _ (flatL_at l i p hx j u hu)
    rwa [add_lit0] at this
  exact ⟨hc 0 _ rfl, hc 1 _ rfl, hc 2 _ rfl, hc 3 _ rfl, hc 4 _ rfl, hc 5 _ rfl⟩
theorem LR.lt {w : World} {B : Nat} {v : Value} {l : List (Lg × Nat)} (h : LR w B v l) : ∀ k, v.ownBlock = some k → B ≤ k ∧ k < w.heap.size := fun k hk => World.ownsRow.lt h k hk
theorem LR.kept {w w1 : World} {B : Nat} {v : Value} {l : List (Lg × Nat)} (h : LR w B v l) (hb : ∀ k, v.ownBlock = some k → w1.heap[k]? = w.heap[k]?) : LR w1 B v l := by
  obtain ⟨h1, h2⟩ := h
  rcases h2 with h2 | ⟨g, cap, cur, rfl, hB, hg, r⟩
  · exact ⟨h1, .inl h2⟩
  · exact ⟨h1, .inr ⟨g, cap, cur, rfl, hB, (hb g rfl).trans hg, r⟩⟩
theorem LR.under {w w1 : World} {B : Nat} {v : Value} {l : List (Lg × Nat)} (h : LR w B v l) (hb : Below w.heap.size w w1) : LR w1 B v l := h.kept (fun k hk => hb.block k (h.lt k hk).2)
theorem LR.take {w : World} {B : Nat} {oa : Option Addr} {n cap : Nat} {l : List (Lg × Nat)} (h : LR w B (.slice oa n cap) l) (k : Nat) (hk : k ≤ l.length) : LR w B (.slice oa k cap) (l.take k) := by
  have hl : (l.take k).length = k := by rw [List.length_take]; omega
  obtain ⟨h1, h2⟩ := h
  refine ⟨by rw [flatL_length], ?_⟩
  rcases h2 with ⟨e, h0⟩ | ⟨g, c, cur, e, hB, hg, hn, hc, hs, ht⟩
  · cases e
    have : k = 0 := by omega
    subst this
    exact .inl ⟨rfl, hl⟩
  · cases e
    refine .inr ⟨g, cap, cur, by rw [hl], hB, hg, by omega, hc, hs, ?_⟩
    rw [hl, flatL_take, ← ht, List.take_take]
    congr 1
    omega

structure LgOk (x : Lg) : Prop where
  pid : 0 ≤ x.pid ∧ x.pid ≤ 1000000000
  ep : 0 ≤ x.ep ∧ x.ep ≤ 1000000000
  seq : 0 ≤ x.seq ∧ x.seq ≤ 1000000
  n : x.n ≤ 1000
  base : 0 ≤ x.base ∧ x.base ≤ 1000000000

structure As where
  ep : Int
  behind : Int
  count : Int
  found : Int
def as0 : As := ⟨-1, 0, 0, -1⟩
def asA (s : As) (x : Lg) : As := if s.ep < 0 then ⟨x.ep, x.seq + x.n, s.count, s.found⟩ else s
def asB (s : As) (x : Lg) : As := if x.ep = s.ep then ⟨s.ep, s.behind, s.count + 1, s.found⟩ else s
def asC (b : Lg) (s : As) (x : Lg) : As := if x.ep = b.ep ∧ x.seq = b.seq ∧ x.n = b.n ∧ s.ep = b.ep ∧ s.count ≤ 5 then ⟨s.ep, s.behind, s.count, x.base⟩ else s
def asStep (b : Lg) (s : As) (x : Lg) : As := if x.pid = b.pid then asC b (asB (asA s x) x) x else s
def asAll (b : Lg) (l : List Lg) : As := l.foldr (fun x s => asStep b s x) as0
/-- What an answer may be. -/
def Good (s : As) (b : Lg) (at_ e : Int) : Prop :=
  (0 ≤ s.found ∧ e = 0 ∧ at_ = s.found) ∨
  (s.found < 0 ∧ ((e = 0 ∧ at_ = -1 ∧ b.ep = s.ep ∧ b.seq = s.behind) ∨ (e = 0 ∧ at_ = -1 ∧ s.ep < b.ep ∧ b.seq = 0) ∨ (e = 13 ∧ b.ep < s.ep) ∨ (e = 11 ∧ b.ep = s.ep ∧ s.behind < b.seq) ∨ (e = 11 ∧ s.ep < b.ep ∧ 0 < b.seq) ∨ (e = 12 ∧ b.ep = s.ep ∧ b.seq < s.behind)))

theorem asStep_ok {b x : Lg} {s : As} {n : Nat} (hx : LgOk x) (hs : -1 ≤ s.ep ∧ s.ep ≤ 1000000000 ∧ 0 ≤ s.behind ∧ s.behind ≤ 2000000 ∧ 0 ≤ s.count ∧ s.count ≤ n ∧ -1 ≤ s.found ∧ s.found ≤ 1000000000) :
    -1 ≤ (asStep b s x).ep ∧ (asStep b s x).ep ≤ 1000000000 ∧ 0 ≤ (asStep b s x).behind ∧ (asStep b s x).behind ≤ 2000000 ∧ 0 ≤ (asStep b s x).count ∧ (asStep b s x).count ≤ (n + 1 : Nat) ∧ -1 ≤ (asStep b s x).found ∧ (asStep b s x).found ≤ 1000000000 := by
  have h1 := hx.ep; have h2 := hx.seq; have h3 := hx.n; have h4 := hx.base
  unfold asStep asC asB asA
  split
  · split <;> (try split) <;> (try split) <;> (try simp only) <;> omega
  · omega
theorem asAll_ok (b : Lg) : ∀ l : List Lg, (∀ x ∈ l, LgOk x) → (-1 ≤ (asAll b l).ep ∧ (asAll b l).ep ≤ 1000000000 ∧ 0 ≤ (asAll b l).behind ∧ (asAll b l).behind ≤ 2000000 ∧ 0 ≤ (asAll b l).count ∧ (asAll b l).count ≤ l.length ∧ -1 ≤ (asAll b l).found ∧ (asAll b l).found ≤ 1000000000)
  | [], _ => by simp [asAll, as0]
  | x :: r, h => by
    have ih := asAll_ok b r (fun y hy => h y (by simp [hy]))
    exact asStep_ok (n := r.length) (h x (by simp)) ih
end Go.Proofs.Ytkdbclnnmpnfgaa

