/- Whose the shares are: what the rounds of joins and leaves keep to, and lists beside groups. -/
import Derived.Test.YtdnpbhijjmlecaaP3
import Derived.Test.YtdnpbhijjmlecaaG28
import Derived.Test.YtdnpbhijjmlecaaL4a
namespace Go.Proofs.Ytdnpbhijjmlecaa
open Go.RowKit Go.Maps
set_option maxRecDepth 100000
set_option linter.unusedSimpArgs false
set_option linter.unusedVariables false

/-- Whatever member syncs with the generation is told its share, and owns it. -/
structure ShareF (S : Gs) (L ids : List Int) (g : Int) : Prop where
  sync : ∀ j (h : j < ids.length), applyI S (rcE 6 ids[j] g 0 0 gB []) = (S, ⟨0, ids[j], g, 0, shareL L ids.length j⟩)
  own : ∀ j (h : j < ids.length), ∀ p ∈ shareL L ids.length j, ownerI (foundG S.gs [103]) p = ids[j]
  none : ids = [] → ownerI (foundG S.gs [103]) 1 = 0
theorem shareF {N : Nat} {S : Gs} {L : List Int} (h : GsOk N S) (ho : OwnP S L) : ShareF S L (idsL (foundG S.gs [103])) (foundG S.gs [103]).gen := by
  cases hx : getG S.gs [103] with
  | none =>
    have hf : foundG S.gs [103] = Gr.zero := by unfold foundG; rw [hx]; rfl
    rw [hf]
    exact ⟨fun j hj => by simp [idsL, Gr.zero] at hj, fun j hj => by simp [idsL, Gr.zero] at hj, fun _ => by rw [hf]; rfl⟩
  | some x =>
    have hf : foundG S.gs [103] = x := by unfold foundG; rw [hx]; rfl
    rw [hf]
    have hp := ho x hx
    have hok : GrOk N x := (h.each _ (get_mem hx)).1
    have hl : (idsL x).length = x.mem.length := by simp [idsL]
    refine ⟨fun j hj => ?_, fun j hj p hpm => ?_, fun hn => by rw [hf]; exact own_none x (by simpa [idsL] using hn) 1⟩
    · have hj' : j < x.mem.length := by omega
      have e : (idsL x)[j] = x.mem[j].id := by simp [idsL]
      rw [e, hl, ← hp]
      exact sync_all h (m := rcE 6 x.mem[j].id x.gen 0 0 gB []) hx rfl j hj' rfl rfl
    · have hj' : j < x.mem.length := by omega
      have e : (idsL x)[j] = x.mem[j].id := by simp [idsL]
      rw [hl, ← hp] at hpm
      rw [hf, e]
      exact own_share x (rise_nodup _ _ hok.parts) j hj' p hpm
theorem ownP_s0 (L : List Int) : OwnP s0 L := fun x hx => by cases hx
def upto (n : Nat) : List Int := List.map (fun i : Nat => (i : Int) + 1) (List.range n)
theorem upto_len (n : Nat) : (upto n).length = n := by simp [upto]
theorem upto_snoc (n : Nat) : upto n ++ [(n : Int) + 1] = upto (n + 1) := by simp [upto, List.range_succ]
theorem upto_ok {n : Nat} (h : n ≤ 16) : ∀ x ∈ upto n, I64 x := by
  intro x hx
  obtain ⟨i, hi, rfl⟩ := List.mem_map.1 hx
  have := List.mem_range.1 hi
  unfold I64; omega
/-- The row of numbers beside the groups grows by one. -/
theorem RB.push {W V w2 : World} {q : Nat} {S : Gs} {N : Nat} {v v2 : Value} {ids : List Int} (h : RB W V q S N v ids) (y : Int) (hown : w2.ownsRow W.heap.size 3 1 v2 (ids.length + 1) (vals ids ++ [.int .i64 y])) (hg : (V.alloc (.cells #[.int .i64 y] 3)).grownBy w2 v.ownBlock) (hat : v2.ownBlock = v.ownBlock ∨ v2.ownBlock = some (V.alloc (.cells #[.int .i64 y] 3)).heap.size) : RB W w2 q S N v2 (ids ++ [y]) := by
  obtain ⟨⟨X, h1, h2⟩, h5⟩ := h
  have hb : Below V.heap.size V (V.alloc (.cells #[.int .i64 y] 3)) := (Below.refl _ _).alloc (Nat.le_refl _) _
  have hI := (h1.under hb).grow hg (fun k hk => ⟨h2 k hk, (World.ownsRow.lt h5 k hk).1⟩)
  refine ⟨⟨_, hI, fun b hb' => ?_⟩, by simpa [vals] using hown⟩
  rcases hat with e | e
  · exact .inl (h2 b (by rw [← e]; exact hb'))
  · rw [e] at hb'
    cases hb'
    exact .inr ⟨Nat.le_refl _, (World.ownsRow.lt hown _ e).2⟩
theorem RB.sh {W V : World} {q : Nat} {S : Gs} {N : Nat} {v : Value} {ids : List Int} (h : RB W V q S N v ids) (hok : ∀ x ∈ ids, I64 x) (hf : ids.length ≤ 1000) : SH W V q S N [] [(v, ids)] := by
  obtain ⟨⟨X, h1, h2⟩, h5⟩ := h
  refine ⟨X, h1, (fun p hp => by cases hp), fun p hp => ?_⟩
  simp only [List.mem_singleton] at hp
  subst hp
  exact ⟨IL.of h5 hok (by show ids.length ≤ _; omega), fun hn b off n c e => .inl (h2 b (by show v.ownBlock = some b; rw [show v = _ from e]; rfl))⟩
/-- A list that a call made. -/
theorem SH.fresh {w W W1 : World} {q : Nat} {S : Gs} {N : Nat} {bs : List (Nat × Array Value)} {ls : List (Value × List Int)} (h : SH w W q S N bs ls) (hb : Below W.heap.size W W1) {v : Value} {l : List Int} (hl : IL W1 v l) (hn : In (fun k => W.heap.size ≤ k) v l) : SH w W1 q S N bs ((v, l) :: ls) := by
  obtain ⟨X, h1, h2, h3⟩ := h
  refine ⟨fun k => X k ∨ (W.heap.size ≤ k ∧ k < W1.heap.size), h1.more hb (fun k hk => hk), fun p hp => ⟨.inl (h2 p hp).1, (hb.block _ (Array.getElem?_eq_some_iff.1 (h2 p hp).2).1).trans (h2 p hp).2⟩, fun p hp => ?_⟩
  rcases List.mem_cons.1 hp with rfl | hp
  · exact ⟨hl, fun hne b off n c e => .inl (.inr ⟨hn hne b off n c e, hl.old hne b off n c e⟩)⟩
  · exact ⟨(h3 p hp).1.under hb, (h3 p hp).2.mono fun k hk => hk.elim (fun h => .inl (.inl h)) .inr⟩
/-- What a record leaves, called in any world behind W: the new blocks between are others'. -/
def AP (w W V w' : World) (q : Nat) (S : Gs) (N : Nat) (ls : List (Value × List Int)) (pv : Value) (t : Td) : Prop :=
  ∃ X, IS w w' q S X N ∧ (∀ k, W.heap.size ≤ k → k < V.heap.size → X k ∧ w'.heap[k]? = V.heap[k]?) ∧ V.heap.size ≤ w'.heap.size ∧ (∀ p ∈ ls, IL w' p.1 p.2 ∧ In (fun k => (X k ∨ k < w.heap.size) ∧ k < W.heap.size) p.1 p.2) ∧ IL w' pv t.parts ∧ In (fun k => X k ∧ V.heap.size ≤ k) pv t.parts
theorem SH.anyCall {w W V : World} {q : Nat} {S S' : Gs} {N : Nat} {ls : List (Value × List Int)} (h : SH w W q S N [] ls) (hV : Below W.heap.size W V) (hN : N ≤ 1000000) (m : Rc) (hrc : RcOk m) (hnm : m.name.size ≤ maxLen) (hl : m.list = []) {t : Td} (hres : applyI S m = (S', t)) :
    Calls Try.prog 12 #[.pointer (some ⟨q, 0, none⟩), recV m (.slice none 0 0)] V fun e w' => ∃ a c, e = .returned (.agg (toldA t a c)) ∧ AP w W V w' q S' (N + 1) ls (.slice a t.parts.length c) t := by
  obtain ⟨X, h1, h2, h3⟩ := h
  have hIS : IS w V q S (fun k => X k ∨ (W.heap.size ≤ k ∧ k < V.heap.size)) N := h1.more hV (fun k hk => hk)
  have e0 : (Value.slice none 0 0) = .slice none m.list.length 0 := by rw [hl]; rfl
  rw [e0]
  refine (hIS.rec hN m hrc hnm none 0 (by rw [hl]; exact IL.nil _) (by rw [hl]; exact In.nil _ _) hres).mono ?_
  rintro e w' ⟨a, c, rfl, g1, g2, g3, g4, g5, g6⟩
  refine ⟨a, c, rfl, _, g3, fun k hk1 hk2 => ⟨.inl (.inr ⟨hk1, hk2⟩), g4 k (.inr ⟨hk1, hk2⟩)⟩, g5, fun p hp => ⟨?_, ?_⟩, g1, fun hne b off n c' e => ⟨.inr ⟨hne, off, n, c', e⟩, g2 hne b off n c' e⟩⟩
  · exact ((h3 p hp).1.under hV).kept (h3 p hp).2 (fun k hk => by
      rcases hk with hk | hk
      · exact g4 k (.inl hk)
      · exact g6.block k hk) g5
  · intro hne b off n c' e
    refine ⟨(h3 p hp).2 hne b off n c' e |>.elim (fun h => .inl (.inl (.inl h))) .inr, (h3 p hp).1.old hne b off n c' e⟩
theorem AP.cell {w W V w' : World} {q : Nat} {S : Gs} {N : Nat} {ls : List (Value × List Int)} {pv : Value} {t : Td} (h : AP w W V w' q S N ls pv t) (i : Nat) {b o n c : Nat} {l : List Int} (hk : ls[i]? = some (.slice (some ⟨b, o, none⟩) n c, l)) (j : Nat) {x : Int} (hx : l[j]? = some x) : w'.cell? ⟨b, o + j, none⟩ = some (.int .i64 x) := by
  obtain ⟨X, _, _, _, h4, _⟩ := h
  have hi : IL w' (.slice (some ⟨b, o, none⟩) n c) l := (h4 _ (List.mem_of_getElem? hk)).1
  obtain ⟨hj, rfl⟩ := List.getElem?_eq_some_iff.1 hx
  obtain ⟨⟨a', c', e', _, _, _, hat⟩, _⟩ := hi
  simp only [Value.slice.injEq] at e'
  obtain ⟨b', o', e2, _, hc⟩ := hat (by intro e; rw [e] at hj; simp at hj)
  obtain ⟨e1, _⟩ := e'
  rw [e2] at e1
  cases e1
  exact hc j hj
theorem AP.box {w W V w' : World} {q : Nat} {S : Gs} {N : Nat} {ls : List (Value × List Int)} {pv : Value} {t : Td} (h : AP w W V w' q S N ls pv t) {T : Nat} {o : Obj} (hT : W.heap.size ≤ T) (hz : V.heap[T]? = some o) : w'.heap[T]? = some o := by
  obtain ⟨X, _, h2, _⟩ := h
  exact (h2 T hT (Array.getElem?_eq_some_iff.1 hz).1).2.trans hz
/-- The box is made behind the call. -/
theorem AP.behind {w W V w' : World} {q : Nat} {S : Gs} {N : Nat} {ls : List (Value × List Int)} {a : Option Addr} {c : Nat} {t : Td} (h : AP w W V w' q S N ls (.slice a t.parts.length c) t) : SH w (w'.alloc (.cells (toldA t a c) 36)) q S N [(w'.heap.size, toldA t a c)] ((.slice a t.parts.length c, t.parts) :: ls) := by
  obtain ⟨X, h1, h2, h3, h4, h5, h6⟩ := h
  have hb : Below w'.heap.size w' (w'.alloc (.cells (toldA t a c) 36)) := (Below.refl _ _).alloc (Nat.le_refl _) _
  refine ⟨fun k => X k ∨ k = w'.heap.size, h1.more hb (fun k hk => hk.elim .inl (fun e => .inr ⟨by omega, by simp; omega⟩)), fun p hp => ?_, fun p hp => ?_⟩
  · simp only [List.mem_singleton] at hp
    subst hp
    exact ⟨.inr rfl, heap_alloc_new _ _⟩
  · rcases List.mem_cons.1 hp with rfl | hp
    · exact ⟨h5.under hb, h6.mono fun k hk => .inl (.inl hk.1)⟩
    · exact ⟨(h4 p hp).1.under hb, (h4 p hp).2.mono fun k hk => hk.1.elim (fun h => .inl (.inl h)) .inr⟩
/-- The box was there ahead of the call. -/
theorem AP.ahead {w W V w' : World} {q : Nat} {S : Gs} {N : Nat} {ls : List (Value × List Int)} {a : Option Addr} {c : Nat} {t : Td} (h : AP w W V w' q S N ls (.slice a t.parts.length c) t) (hw : w.heap.size ≤ W.heap.size) {T : Nat} (hT : W.heap.size ≤ T) (hz : V.heap[T]? = some (.cells #[.int .i64 0, .int .i64 0, .int .i64 0, .int .i64 0, .slice none 0 0] 36)) :
    SH w (((((w'.setCell ⟨T, 0, none⟩ (.int .i64 t.err)).setCell ⟨T, 1, none⟩ (.int .i64 t.mem)).setCell ⟨T, 2, none⟩ (.int .i64 t.gen)).setCell ⟨T, 3, none⟩ (.int .i64 t.off)).setCell ⟨T, 4, none⟩ (.slice a t.parts.length c)) q S N [(T, toldA t a c)] ((.slice a t.parts.length c, t.parts) :: ls) := by
  obtain ⟨X, h1, h2, h3, h4, h5, h6⟩ := h
  have hTl : T < V.heap.size := (Array.getElem?_eq_some_iff.1 hz).1
  obtain ⟨hx, hk⟩ := h2 T hT hTl
  have g0 := hk.trans hz
  have g1 := set_box (j := 0) (v := .int .i64 t.err) g0
  have g2 := set_box (j := 1) (v := .int .i64 t.mem) g1
  have g3 := set_box (j := 2) (v := .int .i64 t.gen) g2
  have g4 := set_box (j := 3) (v := .int .i64 t.off) g3
  have g5 := set_box (j := 4) (v := .slice a t.parts.length c) g4
  have hkp := ((((Keeps.set (S := fun k => k = T) w' (a := ⟨T, 0, none⟩) rfl (.int .i64 t.err)).trans (Keeps.set (S := fun k => k = T) _ (a := ⟨T, 1, none⟩) rfl (.int .i64 t.mem)) (fun x hx => .inl hx)).trans (Keeps.set (S := fun k => k = T) _ (a := ⟨T, 2, none⟩) rfl (.int .i64 t.gen)) (fun x hx => .inl hx)).trans (Keeps.set (S := fun k => k = T) _ (a := ⟨T, 3, none⟩) rfl (.int .i64 t.off)) (fun x hx => .inl hx)).trans (Keeps.set (S := fun k => k = T) _ (a := ⟨T, 4, none⟩) rfl (.slice a t.parts.length c)) (fun x hx => .inl hx)
  generalize ((((w'.setCell ⟨T, 0, none⟩ (.int .i64 t.err)).setCell ⟨T, 1, none⟩ (.int .i64 t.mem)).setCell ⟨T, 2, none⟩ (.int .i64 t.gen)).setCell ⟨T, 3, none⟩ (.int .i64 t.off)).setCell ⟨T, 4, none⟩ (.slice a t.parts.length c) = w2 at *
  have hlt : ∀ k, k ≠ T → k < w'.heap.size → w2.heap[k]? = w'.heap[k]? := fun k hn hk => hkp.block k hk hn
  refine ⟨X, h1.keeps hkp (fun k hk => by subst hk; exact ⟨hx, by omega⟩), fun p hp => ?_, fun p hp => ?_⟩
  · simp only [List.mem_singleton] at hp
    subst hp
    exact ⟨hx, g5⟩
  · rcases List.mem_cons.1 hp with rfl | hp
    · refine ⟨h5.kept h6 (fun k hk => ?_) hkp.size, h6.mono fun k hk => .inl hk.1⟩
      have : k < w'.heap.size := by obtain ⟨_, _, _, _, _, hxx⟩ := h1; exact hxx k hk.1
      exact hlt k (by omega) this
    · refine ⟨(h4 p hp).1.kept (h4 p hp).2 (fun k hk => hlt k (by omega) (by omega)) hkp.size, (h4 p hp).2.mono fun k hk => hk.1⟩
end Go.Proofs.Ytdnpbhijjmlecaa
