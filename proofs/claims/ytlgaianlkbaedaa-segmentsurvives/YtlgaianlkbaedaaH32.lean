/- Read. -/
import Derived.Test.YtlgaianlkbaedaaH27
import Derived.Test.YtlgaianlkbaedaaH30
namespace Go.Proofs.Ytlgaianlkbaedaa
open Go.RowKit Go.Maps Go.Sort
set_option maxRecDepth 100000
set_option linter.unusedSimpArgs false
set_option linter.unusedVariables false

theorem seek_41 {w : World} {B q a base name m ix size fs} (h : SD w B q a base name m ix size fs) (hn : name.size ≤ maxLen) (g : Nat) (N : Int) (hg : w.cell? ⟨g, 0, none⟩ = some (.int .i64 N)) (hbase : base ≤ 1000000000) (hlen : ix.length ≤ 5000) {l : List UInt8} (hl : l = abytes fs name.data.toList) (hix : ∀ x ∈ ix, x.base ≤ 1000000000 ∧ x.at_ ≤ l.length ∧ x.nth ≤ 4096) :
    Calls Try.prog 39 #[.pointer (some ⟨q, 0, none⟩), .func (.func 41) #[] #[.pointer (some ⟨g, 0, none⟩)]] w fun e w' => (∃ R, SeekAny (fun x => decide (N < (x.base : Int))) base m ix l R ∧ e = .returned (.agg #[.int .i64 (R.1.base : Int), .int .i64 (R.1.at_ : Int), .int .i64 (R.1.nth : Int), .string (strOf R.2)])) ∧ Below w.heap.size w w' := by
  cases hP : decide (N < (m.base : Int)) with
  | false => exact (seek_no_41 h g N hg hP).mono fun e w' ⟨e1, e2⟩ => ⟨⟨(m, []), .inl ⟨hP, rfl⟩, e1⟩, e2⟩
  | true =>
    refine (seek_yes_41 h hn g N hg hP hbase hlen hl hix).mono fun e w' ⟨e1, e2⟩ => ⟨?_, e2⟩
    obtain ⟨R, h1, h2⟩ := e1.elim
    exact ⟨R, .inr ⟨hP, h1⟩, h2⟩
set_option maxHeartbeats 3200000 in
theorem sread_no {w : World} {B q a base name m ix size fs} (h : SD w B q a base name m ix size fs) (off most : Int) (ho : off < (base : Int) ∨ (m.base : Int) ≤ off) :
    Calls Try.prog 18 #[.pointer (some ⟨q, 0, none⟩), .int .i64 off, .int .i64 most] w fun e w' => e = .returned (.slice none 0 0) ∧ Below w.heap.size w w' := by
  have HX0 := hid (Boxed.laid w (.cells #[.int .i64 off] 3))
  obtain ⟨k2, _⟩ := h.cs2 HX0.out.below
  obtain ⟨k3, _, _⟩ := h.cs HX0.out.below
  have c0 := cell_at HX0.out.box (j := 0) rfl
  clear h
  by_cases h1 : off < (base : Int)
  · go_enter Try.func18, Try.ntmps18
    go_wp2_with fail
    generalize w.alloc (.cells #[.int .i64 off] 3) = W0 at *
    try go_quiet (fail)
    try go_wp2_with fail
    go_ret
    exact ⟨rfl, by first | exact HX0.out.below | exact below_drewN HX0.out.below _⟩
  · have h2 : (m.base : Int) ≤ off := by omega
    go_enter Try.func18, Try.ntmps18
    go_wp2_with fail
    generalize w.alloc (.cells #[.int .i64 off] 3) = W0 at *
    try go_quiet (fail)
    try go_wp2_with fail
    try go_quiet (fail)
    try go_wp2_with fail
    go_ret
    exact ⟨rfl, by first | exact HX0.out.below | exact below_drewN HX0.out.below _ | exact below_drewN (below_drewN HX0.out.below _) _⟩
end Go.Proofs.Ytlgaianlkbaedaa

/- A row of batches in memory. -/
namespace Go.Proofs.Ytlgaianlkbaedaa
open Go.RowKit Go.Maps Go.Sort
set_option maxRecDepth 100000
set_option linter.unusedSimpArgs false
set_option linter.unusedVariables false

def bcells (b : Bat) (rv : Value) : List Value := [.int .i64 b.base, .int .i64 b.epoch, .int .i64 b.pid, .int .i64 b.pidEpoch, .int .i64 b.seq, rv]
def flatB : List (Bat × Value) → List Value
  | [] => []
  | p :: r => bcells p.1 p.2 ++ flatB r
theorem flatB_append : ∀ l m : List (Bat × Value), flatB (l ++ m) = flatB l ++ flatB m
  | [], m => rfl
  | x :: r, m => by simp [flatB, flatB_append r m]
theorem info34 : ∃ i, Try.prog.info? 34 = some i ∧ i.zero = some (.agg #[.int .i64 0, .int .i64 0, .int .i64 0, .int .i64 0, .int .i64 0, .slice none 0 0]) ∧ i.size = 6 ∧ i.bytes = 64 := ⟨_, rfl, rfl, rfl, rfl⟩
/-- A row of batches, in blocks from A on. -/
structure BL (w : World) (A : Nat) (v : Value) (ps : List (Bat × Value)) : Prop where
  row : w.ownsRow A 34 6 v ps.length (flatB ps)
  recs : ∀ p ∈ ps, Recs w p.2 p.1.recs
  off : ∀ p ∈ ps, ∀ k, p.2.ownBlock = some k → A ≤ k ∧ k < w.heap.size ∧ v.ownBlock ≠ some k
theorem BL.nil (w : World) (A : Nat) : BL w A (.slice none 0 0) [] := ⟨⟨rfl, .inl ⟨rfl, rfl⟩⟩, fun p hp => (by cases hp), fun p hp => (by cases hp)⟩
theorem BL.under {w w1 : World} {A v ps} (h : BL w A v ps) (hb : Below w.heap.size w w1) : BL w1 A v ps := by
  refine ⟨ownsRow_kept h.row (fun q hq => hb.block q (World.ownsRow.lt h.row q hq).2), fun p hp => (h.recs p hp).under hb, fun p hp k hk => ?_⟩
  obtain ⟨h1, h2, h3⟩ := h.off p hp k hk
  exact ⟨h1, Nat.lt_of_lt_of_le h2 hb.size, h3⟩
theorem BL.shape {w : World} {A v ps} (h : BL w A v ps) : ∃ o c, v = .slice o ps.length c := by
  rcases h.row.2 with ⟨e, hn⟩ | ⟨g, cap, cur, e, _⟩
  · exact ⟨none, 0, by rw [e, hn]⟩
  · exact ⟨_, _, e⟩
/-- One more. -/
theorem BL.push {w w2 : World} {A v v' ps} (h : BL w A v ps) (b : Bat) (rv : Value) (hr : Recs w rv b.recs) (ho : ∀ k, rv.ownBlock = some k → A ≤ k ∧ k < w.heap.size ∧ v.ownBlock ≠ some k) (hown : w2.ownsRow A 34 6 v' (ps.length + 1) (flatB ps ++ bcells b rv)) (hg : w.grownBy w2 v.ownBlock) (hat : v'.ownBlock = v.ownBlock ∨ v'.ownBlock = some w.heap.size) : BL w2 A v' (ps ++ [(b, rv)]) := by
  have hs := hg.size
  have key : ∀ p ∈ ps ++ [(b, rv)], Recs w p.2 p.1.recs ∧ ∀ k, p.2.ownBlock = some k → A ≤ k ∧ k < w.heap.size ∧ v.ownBlock ≠ some k := fun p hp => by
    rcases List.mem_append.1 hp with hp | hp
    · exact ⟨h.recs p hp, h.off p hp⟩
    · have e : p = (b, rv) := by simpa using hp
      subst e
      exact ⟨hr, ho⟩
  refine ⟨?_, fun p hp => ?_, fun p hp k hk => ?_⟩
  · rw [flatB_append]
    simpa [flatB] using hown
  · exact (key p hp).1.off (fun k hk => hg.block k ((key p hp).2 k hk).2.1 (fun e => ((key p hp).2 k hk).2.2 e.symm)) hs
  · obtain ⟨h1, h2, h3⟩ := (key p hp).2 k hk
    refine ⟨h1, by omega, fun e => ?_⟩
    rcases hat with ha | ha
    · rw [ha] at e; exact h3 e
    · rw [ha] at e
      cases e
      omega
theorem Recs.lt {w : World} {v : Value} {rs : List Rec} (h : Recs w v rs) (hne : rs ≠ []) (k : Nat) (hk : v.ownBlock = some k) : k < w.heap.size := by
  obtain ⟨a, cap, rfl, ha⟩ := h.shape
  rcases ha with ha | ⟨b, off, rfl, hb, _⟩
  · exact absurd ha hne
  · cases hk
    exact hb
theorem stepL_recs {m : Mk} {l : List UInt8} {b m' l'} (h : stepL m l = some (b, m', l')) : b.recs ≠ [] := by
  obtain ⟨h1, h2, _⟩ := stepL_some h
  obtain ⟨_, _, _, h4, _⟩ := read_facts l h1
  rw [h2]
  exact (rightL_ok h4).2.2.1
/-- What Read takes. -/
def readLs (most first : Int) : Nat → Bool → Mk → List UInt8 → List Bat
  | 0, _, _, _ => []
  | f + 1, ne, m, l => match stepL m l with
    | none => []
    | some (b, m', l') => if (ne && decide (most < (m'.at_ : Int) - first)) = true then [] else b :: readLs most first f true m' l'
end Go.Proofs.Ytlgaianlkbaedaa

