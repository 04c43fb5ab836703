/- Groups of a call's own, apart from blocks X. -/
import Derived.Test.YtdnpbhijjmlecaaZ6
namespace Go.Proofs.Ytdnpbhijjmlecaa
open Go.RowKit Go.Maps
set_option maxRecDepth 100000
set_option linter.unusedSimpArgs false
set_option linter.unusedVariables false

def IS (w0 w : World) (q : Nat) (S : Gs) (X : Nat → Prop) (N : Nat) : Prop := ∃ Z, AllM w Z q S ∧ GsOk N S ∧ (∀ k, Z k → w0.heap.size ≤ k ∧ ¬ X k) ∧ Below w0.heap.size w0 w ∧ ∀ k, X k → k < w.heap.size
theorem IS.below {w0 w : World} {q : Nat} {S : Gs} {X : Nat → Prop} {N : Nat} (h : IS w0 w q S X N) : Below w0.heap.size w0 w := by obtain ⟨Z, _, _, _, h, _⟩ := h; exact h
theorem IS.ok {w0 w : World} {q : Nat} {S : Gs} {X : Nat → Prop} {N : Nat} (h : IS w0 w q S X N) : GsOk N S := by obtain ⟨Z, _, h, _⟩ := h; exact h
theorem IS.under {w0 w w1 : World} {q : Nat} {S : Gs} {X : Nat → Prop} {N : Nat} (h : IS w0 w q S X N) (hb : Below w.heap.size w w1) : IS w0 w1 q S X N := by
  obtain ⟨Z, h1, h2, h3, h4, h5⟩ := h
  exact ⟨Z, h1.under hb, h2, h3, h4.trans (hb.mono h4.size), fun k hk => Nat.lt_of_lt_of_le (h5 k hk) hb.size⟩
/-- More blocks are others': new ones. -/
theorem IS.more {w0 w w1 : World} {q : Nat} {S : Gs} {X Y : Nat → Prop} {N : Nat} (h : IS w0 w q S X N) (hb : Below w.heap.size w w1) (hY : ∀ k, Y k → X k ∨ (w.heap.size ≤ k ∧ k < w1.heap.size)) : IS w0 w1 q S Y N := by
  obtain ⟨Z, h1, h2, h3, h4, h5⟩ := h
  refine ⟨Z, h1.under hb, h2, fun k hk => ⟨(h3 k hk).1, fun hy => ?_⟩, h4.trans (hb.mono h4.size), fun k hk => ?_⟩
  · rcases hY k hy with h | h
    · exact (h3 k hk).2 h
    · have := h1.z k hk; omega
  · rcases hY k hk with h | h
    · exact Nat.lt_of_lt_of_le (h5 k h) hb.size
    · exact h.2
theorem IS.sub {w0 w : World} {q : Nat} {S : Gs} {X Y : Nat → Prop} {N : Nat} (h : IS w0 w q S X N) (hY : ∀ k, Y k → X k) : IS w0 w q S Y N := h.more (Below.refl _ _) (fun k hk => .inl (hY k hk))
/-- A block of others' own is turned. -/
theorem IS.keeps {w0 w w1 : World} {q : Nat} {S : Gs} {X T : Nat → Prop} {N : Nat} (h : IS w0 w q S X N) (hk : Keeps T w w1) (hT : ∀ k, T k → X k ∧ w0.heap.size ≤ k) : IS w0 w1 q S X N := by
  obtain ⟨Z, h1, h2, h3, h4, h5⟩ := h
  exact ⟨Z, h1.kept (fun k hz => hk.block k (h1.z k hz) (fun ht => (h3 k hz).2 (hT k ht).1)) hk.size, h2, h3, h4.trans (hk.below h4.size (fun k ht => (hT k ht).2)), fun k hx => Nat.lt_of_lt_of_le (h5 k hx) hk.size⟩
/-- What a record leaves. -/
def RecP (w0 w : World) (q : Nat) (S : Gs) (X : Nat → Prop) (N : Nat) (t : Td) (e : Ending) (w' : World) : Prop :=
  ∃ a c, e = .returned (.agg #[.int .i64 t.err, .int .i64 t.mem, .int .i64 t.gen, .int .i64 t.off, .slice a t.parts.length c]) ∧ IL w' (.slice a t.parts.length c) t.parts ∧ In (fun k => w.heap.size ≤ k) (.slice a t.parts.length c) t.parts ∧ IS w0 w' q S (fun k => X k ∨ (t.parts ≠ [] ∧ blk (.slice a t.parts.length c) k)) N ∧ (∀ k, X k → w'.heap[k]? = w.heap[k]?) ∧ w.heap.size ≤ w'.heap.size ∧ Below w0.heap.size w w'
theorem IS.rec {w0 w : World} {q : Nat} {S S' : Gs} {X : Nat → Prop} {N : Nat} {t : Td} (h : IS w0 w q S X N) (hN : N ≤ 1000000) (m : Rc) (hrc : RcOk m) (hnm : m.name.size ≤ maxLen) (la : Option Addr) (lc : Nat) (hl : IL w (.slice la m.list.length lc) m.list) (hlx : In (fun k => X k ∨ k < w0.heap.size) (.slice la m.list.length lc) m.list) (hres : applyI S m = (S', t)) :
    Calls Try.prog 12 #[.pointer (some ⟨q, 0, none⟩), recV m (.slice la m.list.length lc)] w (RecP w0 w q S' X (N + 1) t) := by
  obtain ⟨Z, h1, h2, h3, h4, h5⟩ := h
  refine (apply_any h1 h2 hN m hrc hnm la lc hl (hlx.mono fun k hk hz => by
    rcases hk with hk | hk
    · exact (h3 k hz).2 hk
    · have := (h3 k hz).1; omega)).mono ?_
  rintro e w' ⟨Z', g1, g2, g3, a, c, rfl, g5, g6⟩
  have hok := apply_ok h2 m hrc
  rw [hres] at g1 g5 g6 hok
  refine ⟨a, c, by rw [hres], g5, g6.mono fun k hk => hk.1, ⟨Z', g1, hok, fun k hk => ⟨?_, fun hy => ?_⟩, ?_, fun k hk => ?_⟩, fun k hk => ?_, g3.size, ?_⟩
  · rcases g2 k hk with g | g
    · exact (h3 k g).1
    · have := h4.size; omega
  · rcases hy with hx | ⟨hne, off, n, c', e⟩
    · rcases g2 k hk with g | g
      · exact (h3 k g).2 hx
      · have := h5 k hx; omega
    · exact (g6 hne k off n c' e).2 hk
  · exact h4.trans (g3.below h4.size (fun k hk => (h3 k hk).1))
  · rcases hk with hx | ⟨hne, off, n, c', e⟩
    · exact Nat.lt_of_lt_of_le (h5 k hx) g3.size
    · exact g5.old hne k off n c' e
  · exact g3.block k (h5 k hk) (fun hz => (h3 k hz).2 hk)
  · exact g3.below h4.size (fun k hk => (h3 k hk).1)
theorem IS.new {w : World} : Calls Try.prog 10 #[] w fun e w' => ∃ q, e = .returned (ptr q) ∧ IS w w' q ⟨[], 0⟩ (fun _ => False) 0 := by
  refine (new_any w).mono ?_
  rintro e w' ⟨rfl, h1, h2⟩
  exact ⟨_, rfl, _, h1, ⟨List.Pairwise.nil, by simp, (fun p hp => by cases hp), by show I64 0; unfold I64; omega⟩, fun k hk => ⟨hk.1, fun h => h⟩, h2, fun k hk => hk.elim⟩
theorem IS.gen {w0 w : World} {q : Nat} {S : Gs} {X : Nat → Prop} {N : Nat} (h : IS w0 w q S X N) (n : ByteArray) (hn : n.size ≤ maxLen) : Calls Try.prog 18 #[.pointer (some ⟨q, 0, none⟩), .string n] w fun e w' => e = .returned (.int .i64 (foundG S.gs n.data.toList).gen) ∧ Below w.heap.size w w' := by
  obtain ⟨Z, h1, _⟩ := h; exact gen_any h1 n hn
theorem IS.owner {w0 w : World} {q : Nat} {S : Gs} {X : Nat → Prop} {N : Nat} (h : IS w0 w q S X N) (n : ByteArray) (hn : n.size ≤ maxLen) (part : Int) (hp : I64 part) : Calls Try.prog 20 #[.pointer (some ⟨q, 0, none⟩), .string n, .int .i64 part] w fun e w' => e = .returned (.int .i64 (ownerI (foundG S.gs n.data.toList) part)) ∧ Below w.heap.size w w' := by
  obtain ⟨Z, h1, h2, _⟩ := h; exact Owner_any h1 h2 n hn part hp
theorem IS.offset {w0 w : World} {q : Nat} {S : Gs} {X : Nat → Prop} {N : Nat} (h : IS w0 w q S X N) (n : ByteArray) (hn : n.size ≤ maxLen) (part : Int) (hp : I64 part) : Calls Try.prog 21 #[.pointer (some ⟨q, 0, none⟩), .string n, .int .i64 part] w fun e w' => e = .returned (.int .i64 (offI (foundG S.gs n.data.toList) part)) ∧ Below w.heap.size w w' := by
  obtain ⟨Z, h1, h2, _⟩ := h; exact Offset_any h1 n hn part hp
theorem IS.epoch {w0 w : World} {q : Nat} {S : Gs} {X : Nat → Prop} {N : Nat} (h : IS w0 w q S X N) : Calls Try.prog 19 #[.pointer (some ⟨q, 0, none⟩)] w fun e w' => e = .returned (.int .i64 S.epoch) ∧ w = w' := by
  obtain ⟨Z, h1, _⟩ := h; exact epoch_any h1
theorem IS.members {w0 w : World} {q : Nat} {S : Gs} {X : Nat → Prop} {N : Nat} (h : IS w0 w q S X N) (n : ByteArray) (hn : n.size ≤ maxLen) : Calls Try.prog 22 #[.pointer (some ⟨q, 0, none⟩), .string n] w fun e w' => ∃ a c, e = .returned (.slice a (idsL (foundG S.gs n.data.toList)).length c) ∧ IL w' (.slice a (idsL (foundG S.gs n.data.toList)).length c) (idsL (foundG S.gs n.data.toList)) ∧ In (fun b => w.heap.size ≤ b) (.slice a (idsL (foundG S.gs n.data.toList)).length c) (idsL (foundG S.gs n.data.toList)) ∧ Below w.heap.size w w' := by
  obtain ⟨Z, h1, h2, _⟩ := h; exact Members_any h1 h2 n hn
/-- Groups of a call's own beside boxes of what was told, and lists. -/
def SH (w W : World) (q : Nat) (S : Gs) (N : Nat) (bs : List (Nat × Array Value)) (ls : List (Value × List Int)) : Prop :=
  ∃ X, IS w W q S X N ∧ (∀ p ∈ bs, X p.1 ∧ W.heap[p.1]? = some (.cells p.2 36)) ∧ ∀ p ∈ ls, IL W p.1 p.2 ∧ In (fun k => X k ∨ k < w.heap.size) p.1 p.2
theorem SH.is {w W : World} {q : Nat} {S : Gs} {N : Nat} {bs : List (Nat × Array Value)} {ls : List (Value × List Int)} (h : SH w W q S N bs ls) : ∃ X, IS w W q S X N := by obtain ⟨X, h, _⟩ := h; exact ⟨X, h⟩
theorem SH.below {w W : World} {q : Nat} {S : Gs} {N : Nat} {bs : List (Nat × Array Value)} {ls : List (Value × List Int)} (h : SH w W q S N bs ls) : Below w.heap.size w W := by obtain ⟨X, h, _⟩ := h; exact h.below
theorem SH.box {w W : World} {q : Nat} {S : Gs} {N : Nat} {bs : List (Nat × Array Value)} {ls : List (Value × List Int)} (h : SH w W q S N bs ls) {k : Nat} {cs : Array Value} (hk : (k, cs) ∈ bs) : W.heap[k]? = some (.cells cs 36) := by obtain ⟨X, _, h, _⟩ := h; exact (h _ hk).2
theorem SH.list {w W : World} {q : Nat} {S : Gs} {N : Nat} {bs : List (Nat × Array Value)} {ls : List (Value × List Int)} (h : SH w W q S N bs ls) {v : Value} {l : List Int} (hk : (v, l) ∈ ls) : IL W v l := by obtain ⟨X, _, _, h⟩ := h; exact (h _ hk).1
theorem SH.boxAt {w W : World} {q : Nat} {S : Gs} {N : Nat} {bs : List (Nat × Array Value)} {ls : List (Value × List Int)} (h : SH w W q S N bs ls) (i : Nat) {k : Nat} {cs : Array Value} (hk : bs[i]? = some (k, cs)) : W.heap[k]? = some (.cells cs 36) := h.box (List.mem_of_getElem? hk)
theorem SH.listAt {w W : World} {q : Nat} {S : Gs} {N : Nat} {bs : List (Nat × Array Value)} {ls : List (Value × List Int)} (h : SH w W q S N bs ls) (i : Nat) {v : Value} {l : List Int} (hk : ls[i]? = some (v, l)) : IL W v l := h.list (List.mem_of_getElem? hk)
theorem SH.under {w W W1 : World} {q : Nat} {S : Gs} {N : Nat} {bs : List (Nat × Array Value)} {ls : List (Value × List Int)} (h : SH w W q S N bs ls) (hb : Below W.heap.size W W1) : SH w W1 q S N bs ls := by
  obtain ⟨X, h1, h2, h3⟩ := h
  exact ⟨X, h1.under hb, fun p hp => ⟨(h2 p hp).1, (hb.block _ (Array.getElem?_eq_some_iff.1 (h2 p hp).2).1).trans (h2 p hp).2⟩, fun p hp => ⟨(h3 p hp).1.under hb, (h3 p hp).2⟩⟩
theorem SH.sub {w W : World} {q : Nat} {S : Gs} {N : Nat} {bs bs' : List (Nat × Array Value)} {ls ls' : List (Value × List Int)} (h : SH w W q S N bs ls) (hb : ∀ p ∈ bs', p ∈ bs) (hl : ∀ p ∈ ls', p ∈ ls) : SH w W q S N bs' ls' := by
  obtain ⟨X, h1, h2, h3⟩ := h
  exact ⟨X, h1, fun p hp => h2 p (hb p hp), fun p hp => h3 p (hl p hp)⟩
/-- A list in a new block. -/
theorem SH.lit {w W : World} {q : Nat} {S : Gs} {N : Nat} {bs : List (Nat × Array Value)} {ls : List (Value × List Int)} (h : SH w W q S N bs ls) (l : List Int) (hok : ∀ x ∈ l, I64 x) (hf : l.length ≤ 1000) : SH w (W.alloc (.cells (vals l).toArray 3)) q S N bs ((.slice (some ⟨W.heap.size, 0, none⟩) l.length l.length, l) :: ls) := by
  obtain ⟨X, h1, h2, h3⟩ := h
  have hb : Below W.heap.size W (W.alloc (.cells (vals l).toArray 3)) := (Below.refl _ _).alloc (Nat.le_refl _) _
  refine ⟨fun k => X k ∨ k = W.heap.size, h1.more hb (fun k hk => hk.elim .inl (fun e => .inr ⟨by omega, by simp; omega⟩)), fun p hp => ⟨.inl (h2 p hp).1, (hb.block _ (Array.getElem?_eq_some_iff.1 (h2 p hp).2).1).trans (h2 p hp).2⟩, fun p hp => ?_⟩
  rcases List.mem_cons.1 hp with rfl | hp
  · exact ⟨il_lit l (heap_alloc_new _ _) hok hf, fun hn b off n c e => by cases e; exact .inl (.inr rfl)⟩
  · exact ⟨(h3 p hp).1.under hb, (h3 p hp).2.mono fun k hk => hk.elim (fun h => .inl (.inl h)) .inr⟩
/-- A list that is there already. -/
theorem SH.old {w W : World} {q : Nat} {S : Gs} {N : Nat} {bs : List (Nat × Array Value)} {ls : List (Value × List Int)} (h : SH w W q S N bs ls) {v : Value} {l : List Int} (hl : IL w v l) : SH w W q S N bs ((v, l) :: ls) := by
  obtain ⟨X, h1, h2, h3⟩ := h
  refine ⟨X, h1, h2, fun p hp => ?_⟩
  rcases List.mem_cons.1 hp with rfl | hp
  · exact ⟨hl.under h1.below, hl.old.mono fun k hk => .inr hk⟩
  · exact h3 p hp
def toldA (t : Td) (a : Option Addr) (c : Nat) : Array Value := #[.int .i64 t.err, .int .i64 t.mem, .int .i64 t.gen, .int .i64 t.off, .slice a t.parts.length c]
/-- A record, and what it tells is put into a box. -/
theorem SH.call {w W : World} {q : Nat} {S S' : Gs} {N : Nat} {bs : List (Nat × Array Value)} {ls : List (Value × List Int)} (h : SH w W q S N bs ls) (hN : N ≤ 1000000) (m : Rc) (hrc : RcOk m) (hnm : m.name.size ≤ maxLen) (la : Option Addr) (lc : Nat) (hl : m.list = [] ∧ la = none ∧ lc = 0 ∨ (.slice la m.list.length lc, m.list) ∈ ls) {t : Td} (hres : applyI S m = (S', t)) :
    Calls Try.prog 12 #[.pointer (some ⟨q, 0, none⟩), recV m (.slice la m.list.length lc)] W fun e w' => ∃ a c, e = .returned (.agg (toldA t a c)) ∧ SH w w' q S' (N + 1) bs ((.slice a t.parts.length c, t.parts) :: ls) ∧ SH w (w'.alloc (.cells (toldA t a c) 36)) q S' (N + 1) ((w'.heap.size, toldA t a c) :: bs) ((.slice a t.parts.length c, t.parts) :: ls) := by
  obtain ⟨X, h1, h2, h3⟩ := h
  have hli : IL W (.slice la m.list.length lc) m.list ∧ In (fun k => X k ∨ k < w.heap.size) (.slice la m.list.length lc) m.list := by
    rcases hl with ⟨e1, e2, e3⟩ | hl
    · rw [e1, e2, e3]; exact ⟨IL.nil _, In.nil _ _⟩
    · exact h3 _ hl
  refine (h1.rec hN m hrc hnm la lc hli.1 hli.2 hres).mono ?_
  rintro e w' ⟨a, c, rfl, g1, g2, g3, g4, g5, g6⟩
  have hbs : ∀ p ∈ bs, w'.heap[p.1]? = some (.cells p.2 36) := fun p hp => (g4 p.1 (h2 p hp).1).trans (h2 p hp).2
  have hlt : ∀ p ∈ ls, IL w' p.1 p.2 := fun p hp => (h3 p hp).1.kept (h3 p hp).2 (fun k hk => by
    rcases hk with hk | hk
    · exact g4 k hk
    · exact g6.block k hk) g5
  have s1 : SH w w' q S' (N + 1) bs ((.slice a t.parts.length c, t.parts) :: ls) := by
    refine ⟨_, g3, fun p hp => ⟨.inl (h2 p hp).1, hbs p hp⟩, fun p hp => ?_⟩
    rcases List.mem_cons.1 hp with rfl | hp
    · exact ⟨g1, fun hne b off n c' e => .inl (.inr ⟨hne, off, n, c', e⟩)⟩
    · exact ⟨hlt p hp, (h3 p hp).2.mono fun k hk => hk.elim (fun h => .inl (.inl h)) .inr⟩
  refine ⟨a, c, rfl, s1, ?_⟩
  obtain ⟨Y, k1, k2, k3⟩ := s1
  have hb : Below w'.heap.size w' (w'.alloc (.cells (toldA t a c) 36)) := (Below.refl _ _).alloc (Nat.le_refl _) _
  refine ⟨fun k => Y k ∨ k = w'.heap.size, k1.more hb (fun k hk => hk.elim .inl (fun e => .inr ⟨by omega, by simp; omega⟩)), fun p hp => ?_, fun p hp => ⟨(k3 p hp).1.under hb, (k3 p hp).2.mono fun k hk => hk.elim (fun h => .inl (.inl h)) .inr⟩⟩
  rcases List.mem_cons.1 hp with rfl | hp
  · exact ⟨.inr rfl, heap_alloc_new _ _⟩
  · exact ⟨.inl (k2 p hp).1, (hb.block _ (Array.getElem?_eq_some_iff.1 (k2 p hp).2).1).trans (k2 p hp).2⟩
/-- The chapter's examples. -/
def gB : ByteArray := ⟨#[103]⟩
def hB : ByteArray := ⟨#[104]⟩
def rcE (k a b c d : Int) (n : ByteArray) (l : List Int) : Rc := ⟨k, a, b, c, d, n, ⟨#[]⟩, l⟩
def s0 : Gs := ⟨[], 0⟩
def s1 : Gs := ⟨[([103], ⟨1, 1, [⟨1, -1⟩], [1, 2, 3], []⟩)], 0⟩
def s2 : Gs := ⟨[([103], ⟨2, 2, [⟨1, -1⟩, ⟨2, -1⟩], [1, 2, 3], []⟩)], 0⟩
def s5 : Gs := ⟨[([103], ⟨2, 2, [⟨1, 4⟩, ⟨2, -1⟩], [1, 2, 3], [(1, 7)]⟩)], 0⟩
theorem ex1 : applyI s0 (rcE 1 0 0 0 0 gB [1, 2, 3]) = (s1, ⟨0, 1, 1, 0, [1, 2, 3]⟩) := by kernel_rfl
theorem ex2 : applyI s1 (rcE 1 0 0 0 0 gB [1, 2, 3]) = (s2, ⟨0, 2, 2, 0, [3]⟩) := by kernel_rfl
theorem ex3 : applyI s2 (rcE 6 1 2 0 0 gB []) = (s2, ⟨0, 1, 2, 0, [1, 2]⟩) := by kernel_rfl
theorem ex4 : applyI s2 (rcE 6 1 1 0 0 gB []) = (s2, ⟨18, 0, 0, 0, []⟩) := by kernel_rfl
theorem ex5 : applyI s2 (rcE 3 1 2 1 7 gB [4]) = (s5, ⟨0, 1, 2, 7, []⟩) := by kernel_rfl
theorem ex6 : applyI s5 (rcE 3 1 2 1 7 gB [4]) = (s5, ⟨12, 0, 0, 0, []⟩) := by kernel_rfl
theorem ex7 : applyI s5 (rcE 4 0 0 1 0 gB []) = (s5, ⟨0, 0, 2, 7, []⟩) := by kernel_rfl
theorem ex8 : applyI s5 (rcE 3 2 2 1 9 gB [0]) = (s5, ⟨19, 0, 0, 0, []⟩) := by kernel_rfl
theorem ex9 : applyI s5 (rcE 4 0 0 1 0 hB []) = (s5, ⟨8, 0, 0, 0, []⟩) := by kernel_rfl
theorem ex10 : ownerI (foundG s5.gs [103]) 3 = 2 := by kernel_rfl
theorem ex11 : offI (foundG s5.gs [103]) 2 = -1 := by kernel_rfl
end Go.Proofs.Ytdnpbhijjmlecaa

