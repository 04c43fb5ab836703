/- Generations, owners, ids, offsets: what the rounds keep to. -/
import Derived.Test.YtdnpbhijjmlecaaG28
import Derived.Test.YtdnpbhijjmlecaaP2
namespace Go.Proofs.Ytdnpbhijjmlecaa
open Go.RowKit Go.Maps
set_option maxRecDepth 100000
set_option linter.unusedSimpArgs false
set_option linter.unusedVariables false

theorem IS.grow {w0 w w1 : World} {q : Nat} {S : Gs} {X : Nat → Prop} {N : Nat} {r : Option Nat} (h : IS w0 w q S X N) (hg : w.grownBy w1 r) (hr : ∀ k, r = some k → X k ∧ w0.heap.size ≤ k) : IS w0 w1 q S (fun k => X k ∨ (w.heap.size ≤ k ∧ k < w1.heap.size)) N := by
  obtain ⟨Z, h1, h2, h3, h4, h5⟩ := h
  have hk : Keeps (fun k => r = some k) w w1 := Keeps.of_grown hg (fun k hk => hk)
  refine ⟨Z, h1.kept (fun k hz => hk.block k (h1.z k hz) (fun ht => (h3 k hz).2 (hr k ht).1)) hk.size, h2, fun k hz => ⟨(h3 k hz).1, fun hy => ?_⟩, h4.trans (hk.below h4.size (fun k ht => (hr k ht).2)), fun k hk2 => ?_⟩
  · rcases hy with hx | ⟨g1, g2⟩
    · exact (h3 k hz).2 hx
    · have := h1.z k hz; omega
  · rcases hk2 with hx | ⟨g1, g2⟩
    · exact Nat.lt_of_lt_of_le (h5 k hx) hk.size
    · exact g2
/-- What the rounds keep to. -/
structure RI (W wr : World) (q : Nat) (S : Gs) (N : Nat) (v : Value) (ids : List Int) (last : Int) : Prop where
  is : ∃ X, IS W wr q S X N ∧ ∀ b, v.ownBlock = some b → X b
  row : wr.ownsRow W.heap.size 3 1 v ids.length (vals ids)
  ids : ∀ y ∈ ids, 1 ≤ y ∧ y ≤ (foundG S.gs [103]).ever
  last : offI (foundG S.gs [103]) 2 = last
def toldC (t : Td) (a : Option Addr) (c : Nat) : Array Value := #[.int .i64 t.err, .int .i64 t.mem, .int .i64 t.gen, .int .i64 t.off, .slice a t.parts.length c]
/-- After the record: groups, the row, the record's box and the box of what was told. -/
structure RA (W wr : World) (q : Nat) (S : Gs) (N : Nat) (v : Value) (ids : List Int) (m : Rc) (lv : Value) (M T : Nat) (cs : Array Value) : Prop where
  is : ∃ X, IS W wr q S X N ∧ (∀ b, v.ownBlock = some b → X b) ∧ X M ∧ X T
  row : wr.ownsRow W.heap.size 3 1 v ids.length (vals ids)
  m : wr.heap[M]? = some (.cells (recA m lv) 32)
  t : wr.heap[T]? = some (.cells cs 36)
theorem RA.under {W wr w1 : World} {q : Nat} {S : Gs} {N : Nat} {v : Value} {ids : List Int} {m : Rc} {lv : Value} {M T : Nat} {cs : Array Value} (h : RA W wr q S N v ids m lv M T cs) (hb : Below wr.heap.size wr w1) : RA W w1 q S N v ids m lv M T cs := by
  obtain ⟨⟨X, h1, h2⟩, h3, h4, h5⟩ := h
  exact ⟨⟨X, h1.under hb, h2⟩, by
    obtain ⟨g1, g2 | ⟨g, cp, cur, e, hB, hg, r⟩⟩ := h3
    · exact ⟨g1, .inl g2⟩
    · exact ⟨g1, .inr ⟨g, cp, cur, e, hB, (hb.block g (Array.getElem?_eq_some_iff.1 hg).1).trans hg, r⟩⟩, (hb.block M (Array.getElem?_eq_some_iff.1 h4).1).trans h4, (hb.block T (Array.getElem?_eq_some_iff.1 h5).1).trans h5⟩
/-- Groups and row alone. -/
structure RB (W wr : World) (q : Nat) (S : Gs) (N : Nat) (v : Value) (ids : List Int) : Prop where
  is : ∃ X, IS W wr q S X N ∧ ∀ b, v.ownBlock = some b → X b
  row : wr.ownsRow W.heap.size 3 1 v ids.length (vals ids)
theorem RB.under {W wr w1 : World} {q : Nat} {S : Gs} {N : Nat} {v : Value} {ids : List Int} (h : RB W wr q S N v ids) (hb : Below wr.heap.size wr w1) : RB W w1 q S N v ids := by
  obtain ⟨⟨X, h1, h2⟩, h3⟩ := h
  exact ⟨⟨X, h1.under hb, h2⟩, by
    obtain ⟨g1, g2 | ⟨g, cp, cur, e, hB, hg, r⟩⟩ := h3
    · exact ⟨g1, .inl g2⟩
    · exact ⟨g1, .inr ⟨g, cp, cur, e, hB, (hb.block g (Array.getElem?_eq_some_iff.1 hg).1).trans hg, r⟩⟩⟩
theorem RA.rb {W wr : World} {q : Nat} {S : Gs} {N : Nat} {v : Value} {ids : List Int} {m : Rc} {lv : Value} {M T : Nat} {cs : Array Value} (h : RA W wr q S N v ids m lv M T cs) : RB W wr q S N v ids := by
  obtain ⟨⟨X, h1, h2, _⟩, h3, _⟩ := h
  exact ⟨⟨X, h1, h2⟩, h3⟩
theorem RA.push {W V w2 : World} {q : Nat} {S : Gs} {N : Nat} {v v2 : Value} {ids : List Int} {m : Rc} {lv : Value} {M T : Nat} {cs : Array Value} (h : RA W V q S N v ids m lv M T cs) (hv : ∀ b, v.ownBlock = some b → b < M) (y : Int) (hown : w2.ownsRow W.heap.size 3 1 v2 (ids.length + 1) (vals ids ++ [.int .i64 y])) (hg : (V.alloc (.cells #[.int .i64 y] 3)).grownBy w2 v.ownBlock) (hat : v2.ownBlock = v.ownBlock ∨ v2.ownBlock = some (V.alloc (.cells #[.int .i64 y] 3)).heap.size) : RB W w2 q S N v2 (ids ++ [y]) ∧ ∀ p u, M ≤ p.block → V.cell? p = some u → w2.cell? p = some u := by
  obtain ⟨⟨X, h1, h2, h3, h4⟩, h5, h6, h7⟩ := h
  have hb : Below V.heap.size V (V.alloc (.cells #[.int .i64 y] 3)) := (Below.refl _ _).alloc (Nat.le_refl _) _
  have hI := (h1.under hb).grow hg (fun k hk => ⟨h2 k hk, (World.ownsRow.lt h5 k hk).1⟩)
  have hk : Keeps (fun k => v.ownBlock = some k) (V.alloc (.cells #[.int .i64 y] 3)) w2 := Keeps.of_grown hg (fun k hk => hk)
  refine ⟨⟨⟨_, hI, fun b hb' => ?_⟩, by simpa [vals] using hown⟩, fun p u hp hu => ?_⟩
  · rcases hat with e | e
    · exact .inl (h2 b (by rw [← e]; exact hb'))
    · rw [e] at hb'
      cases hb'
      exact .inr ⟨Nat.le_refl _, (World.ownsRow.lt hown _ e).2⟩
  · have hl : p.block < V.heap.size := World.block_lt_of_cell? V _ hu
    exact (World.cell?_of_block ((hk.block p.block (by simp; omega) (fun e => by have := hv _ e; omega)).trans (hb.block _ hl))).trans hu
theorem RB.shape {W wr : World} {q : Nat} {S : Gs} {N : Nat} {v : Value} {ids : List Int} (h : RB W wr q S N v ids) : ∃ a c, v = .slice a ids.length c := by
  obtain ⟨oa, cap, e, _⟩ := row_shape (row_base h.row)
  exact ⟨oa, cap, e⟩
theorem own_in (x : Gr) (part : Int) : ∀ (r : List Mb) (i : Nat), ownFrom x part i r = 0 ∨ ownFrom x part i r ∈ r.map (·.id)
  | [], i => .inl rfl
  | m :: r, i => by
    unfold ownFrom
    split
    · exact .inr (by simp)
    · rcases own_in x part r (i + 1) with h | h
      · exact .inl h
      · exact .inr (by simp only [List.map_cons, List.mem_cons]; exact .inr h)
/-- The record is applied, and what it tells put into a box. -/
theorem RI.apply {W wr : World} {q : Nat} {S : Gs} {N : Nat} {v : Value} {ids : List Int} {last : Int} (h : RI W wr q S N v ids last) (hN : N ≤ 1000000) (m : Rc) (hrc : RcOk m) (hkey : m.name = gB) (la : Option Addr) (lc : Nat) (hl : IL W (.slice la m.list.length lc) m.list) (V : World) (hV : Below (wr.alloc (.cells (recA m (.slice la m.list.length lc)) 32)).heap.size (wr.alloc (.cells (recA m (.slice la m.list.length lc)) 32)) V) :
    Calls Try.prog 12 #[.pointer (some ⟨q, 0, none⟩), recV m (.slice la m.list.length lc)] V fun e w' => ∃ a c, e = .returned (.agg (toldC (applyI S m).2 a c)) ∧ RA W (w'.alloc (.cells (toldC (applyI S m).2 a c) 36)) q (applyI S m).1 (N + 1) v ids m (.slice la m.list.length lc) wr.heap.size w'.heap.size (toldC (applyI S m).2 a c) := by
  obtain ⟨⟨X, h1, h2⟩, h3, h4, h5⟩ := h
  have hb0 : Below wr.heap.size wr (wr.alloc (.cells (recA m (.slice la m.list.length lc)) 32)) := (Below.refl _ _).alloc (Nat.le_refl _) _
  have hbV : Below wr.heap.size wr V := hb0.trans (hV.mono hb0.size)
  have hM : V.heap[wr.heap.size]? = some (.cells (recA m (.slice la m.list.length lc)) 32) := (hV.block _ (by simp)).trans (heap_alloc_new _ _)
  have hIS : IS W V q S (fun k => X k ∨ k = wr.heap.size) N := h1.more hbV (fun k hk => hk.elim .inl (fun e => .inr ⟨by omega, by rw [e]; exact (Array.getElem?_eq_some_iff.1 hM).1⟩))
  refine (hIS.rec hN m hrc (by rw [hkey]; exact gB_le) la lc ((hl.under h1.below).under hbV) (hl.old.mono fun k hk => .inr hk) (t := (applyI S m).2) (S' := (applyI S m).1) rfl).mono ?_
  rintro e w' ⟨a, c, rfl, g1, g2, g3, g4, g5, g6⟩
  have hb : Below w'.heap.size w' (w'.alloc (.cells (toldC (applyI S m).2 a c) 36)) := (Below.refl _ _).alloc (Nat.le_refl _) _
  refine ⟨a, c, rfl, ⟨_, g3.more (Y := fun k => (X k ∨ k = wr.heap.size) ∨ k = w'.heap.size) hb (fun k hk => hk.elim (fun h => .inl (.inl h)) (fun e => .inr ⟨by omega, by simp; omega⟩)), fun b hb => .inl (.inl (h2 b hb)), .inl (.inr rfl), .inr rfl⟩, ?_, ?_, heap_alloc_new _ _⟩
  · obtain ⟨k1, k2 | ⟨g, cp, cur, e, hB, hg, r⟩⟩ := h3
    · exact ⟨k1, .inl k2⟩
    · have e1 := hbV.block g (Array.getElem?_eq_some_iff.1 hg).1
      have e2 := g4 g (.inl (h2 g (by rw [e]; rfl)))
      have hgl : g < w'.heap.size := Nat.lt_of_lt_of_le (Nat.lt_of_lt_of_le (Array.getElem?_eq_some_iff.1 hg).1 hbV.size) g5
      exact ⟨k1, .inr ⟨g, cp, cur, e, hB, (hb.block g hgl).trans (e2.trans (e1.trans hg)), r⟩⟩
  · have e2 := g4 wr.heap.size (.inr rfl)
    have hgl : wr.heap.size < w'.heap.size := Nat.lt_of_lt_of_le (Array.getElem?_eq_some_iff.1 hM).1 g5
    exact (hb.block _ hgl).trans (e2.trans hM)
end Go.Proofs.Ytdnpbhijjmlecaa
