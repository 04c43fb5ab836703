/- put: entries stand where their indexes say. -/
import Derived.Test.YtclldpecbocclaaGreatK14
namespace Go.Proofs.YtclldpecbocclaaGreat
open Go.RowKit Go.Maps
set_option maxRecDepth 100000
set_option linter.unusedSimpArgs false
set_option linter.unusedVariables false

/-- What a call leaves of a log. -/
def LAfter (U : Nat → Prop) (w w' : World) (q a : Nat) (s : LSt) : Prop :=
  ∃ U' v', LogM w' U' q a v' s ∧ (∀ k, U' k → U k ∨ w.heap.size ≤ k) ∧ (∀ k, U k → U' k) ∧ Keeps U w w'
theorem LAfter.same {U : Nat → Prop} {w w' : World} {q a v s} (h : LogM w U q a v s) (hb : Below w.heap.size w w') : LAfter U w w' q a s :=
  ⟨U, v, h.under hb, fun k hk => .inl hk, fun k hk => hk, Keeps.of_below hb⟩
/-- Other entries in a log's field, the row its own or new. -/
theorem LogM.setList {w W : World} {U q a v s} (h : LogM w U q a v s) {w0 : World} (hb0 : Below w0.heap.size w0 w) (hg : w.grownBy W v.ownBlock) {v' : Value} {l' : List Et} (he : EL W v' l') (ho : ∀ k, v'.ownBlock = some k → v.ownBlock = some k ∨ w0.heap.size ≤ k) (hU0 : ∀ k, U k → k < w0.heap.size) (s' : LSt) (hs' : s'.term = s.term ∧ s'.vote = s.vote ∧ s'.snap = s.snap ∧ s'.list = l') :
    W.cell? ⟨q, 5, none⟩ = some v ∧ W.frozen? ⟨q, 5, none⟩ = false ∧ LAfter U w0 (W.setCell ⟨q, 5, none⟩ v') q a s' := by
  have hq := h.lt
  have hs0 := hb0.size
  have hgs := hg.size
  have hqv : v.ownBlock ≠ some q := fun e => (h.own q e).2 rfl
  have hbox : W.heap[q]? = _ := (hg.block q hq (fun e => hqv e.symm)).trans h.box
  have hqv' : ∀ k, v'.ownBlock = some k → k ≠ q := fun k hk e => by
    rcases ho k hk with h1 | h1
    · exact (h.own k h1).2 e
    · have := hU0 q h.self; omega
  refine ⟨cell_at hbox rfl, frozen_blk hbox 5, fun k => U k ∨ (v'.ownBlock = some k), v', ⟨fun k hk => ?_, .inl h.self, ?_, ?_, fun k hk => ⟨.inr hk, hqv' k hk⟩⟩, fun k hk => ?_, fun k hk => .inl hk, ?_⟩
  · rw [set_size]
    rcases hk with hk | hk
    · have := h.below k hk; omega
    · exact he.lt k hk
  · rw [set_box hbox, hs'.1, hs'.2.1, hs'.2.2.1]
    rfl
  · rw [hs'.2.2.2]
    exact he.kept (fun k hk => Below.heap_setCell W ⟨q, 5, none⟩ v' k (hqv' k hk))
  · rcases hk with hk | hk
    · exact .inl hk
    · rcases ho k hk with h1 | h1
      · exact .inl (h.own k h1).1
      · exact .inr h1
  · refine ⟨(by show W.os = _; rw [hg.os, hb0.os]), (by show W.tape = _; rw [hg.tape, hb0.tape]), (by show W.output = _; rw [hg.output, hb0.output]), (by rw [set_size]; omega), fun k hk hn => ?_⟩
    rw [Below.heap_setCell W ⟨q, 5, none⟩ v' k (fun e => hn (by rw [e]; exact h.self)), hg.block k (by omega) (fun e => hn (h.own k e.symm).1), hb0.block k hk]
set_option maxHeartbeats 8000000 in
theorem lput_any {w : World} {U q a v s} (h : LogM w U q a v s) (hb : LB s) {g o c : Nat} {x : Et} {r : List Et} (hm : EAt w (some ⟨g, o, none⟩) (x :: r)) (hml : (x :: r).length ≤ 1000000) (hgU : ¬ U g) (n : Nat) (hn : n ≤ s.list.length) (hx : x.i = s.snap.i + 1 + (n : Int)) (s' : LSt) (hs' : s'.term = s.term ∧ s'.vote = s.vote ∧ s'.snap = s.snap ∧ s'.list = s.list.take n ++ (x :: r)) :
    Calls Tryz.prog 26 #[.pointer (some ⟨q, 0, none⟩), .slice (some ⟨g, o, none⟩) (x :: r).length c] w fun e w' => e = .returned (.tuple #[]) ∧ LAfter U w w' q a s' := by
  obtain ⟨oa, cap, rfl, hcap, hcm, hnn, hoa⟩ := h.ents.shape
  have c5 := h.c.c5
  obtain ⟨_, r1, _⟩ := hm.at_ 0 x rfl
  simp only [Nat.zero_mul, Nat.add_zero] at r1
  have H14 : Hid (∀ W, Below w.heap.size w W → Calls Tryz.prog 20 #[.pointer (some ⟨q, 0, none⟩)] W fun e w' => e = .returned (.int .i64 (s.snap.i + 1)) ∧ W = w') := fun W hW => first_any (h.under hW) hb
  have H52 : Hid (∀ W, Below w.heap.size w W → Calls Tryz.prog 49 #[.slice oa s.list.length cap, .int .i64 (n : Int), .int .i64 (s.list.length : Int), .slice (some ⟨g, o, none⟩) (x :: r).length c] W fun e w' => ∃ v', e = .returned v' ∧ W.grownBy w' (Value.slice oa s.list.length cap).ownBlock ∧ (∃ oa' n' c', v' = .slice oa' n' c') ∧ w'.cell? ⟨q, 5, none⟩ = some (.slice oa s.list.length cap) ∧ w'.frozen? ⟨q, 5, none⟩ = false ∧ (w'.cell? ⟨g, o + 1, none⟩ = some (.int .i64 x.i) ∧ (w'.setCell ⟨q, 5, none⟩ v').cell? ⟨g, o + 1, none⟩ = some (.int .i64 x.i)) ∧ Hid (LAfter U w (w'.setCell ⟨q, 5, none⟩ v') q a s')) := fun W hW => by
    refine (replace_any (h.under hW).ents (hm.under hW) hb.len hml (by simp) n hn).mono ?_
    rintro e w' ⟨v', rfl, h1, h2, h3⟩
    have hs := hW.size
    obtain ⟨g1, g2, g3⟩ := (h.under hW).setList hW h3 h1 (fun k hk => by
      rcases h2 k hk with h | h
      · exact .inl h
      · exact .inr (by omega)) h.below s' hs'
    obtain ⟨oa', cap', e, _⟩ := h1.shape
    have hgb : w'.cell? ⟨g, o + 1, none⟩ = some (.int .i64 x.i) := by
      have hlt : g < w.heap.size := World.block_lt_of_cell? w _ r1
      rw [World.cell?_of_block (a := ⟨g, o + 1, none⟩) ((h3.block g (by omega) (fun e => hgU (h.own g e.symm).1)).trans (hW.block g hlt))]
      exact r1
    have hgc : (w'.setCell ⟨q, 5, none⟩ v').cell? ⟨g, o + 1, none⟩ = some (.int .i64 x.i) := by
      rw [World.cell?_of_block (a := ⟨g, o + 1, none⟩) (Below.heap_setCell w' ⟨q, 5, none⟩ v' g (fun e => hgU (by rw [e]; exact h.self)))]
      exact hgb
    exact ⟨v', rfl, h3, ⟨oa', _, cap', e⟩, g1, g2, ⟨hgb, hgc⟩, g3⟩
  have i0 := hb.i0
  have i1 := hb.i1
  have hlen := hb.len
  have hw : IntKind.i64.wrap (x.i - (s.snap.i + 1)) = (n : Int) := by rw [hx, show s.snap.i + 1 + (n : Int) - (s.snap.i + 1) = (n : Int) by omega]; exact IntWalk.i64_in _ ⟨by omega, by omega⟩
  have hpos : (0 : Int) < (((x :: r).length : Nat) : Int) := by rw [List.length_cons]; omega
  have hpos2 : 0 < (x :: r).length := by simp
  clear h hb hoa hm hx hs' hn hnn hgU
  generalize x.i = XI at *
  generalize s.snap.i = I at *
  generalize s.list.length = N at *
  generalize (x :: r).length = M at *
  go_enter Tryz.func26, Tryz.ntmps26
  go_wp2_with fail
  go_region_with
    (first
    | (go_at_call 20; refine (H14.out _ (by repeat (first | exact Below.refl _ _ | apply Below.drew))).mono ?_; rintro e w2 ⟨rfl, rfl⟩)
    | (go_at_call 49; refine (H52.out _ (by repeat (first | exact Below.refl _ _ | apply Below.drew))).mono ?_; rintro e w3 ⟨v3, rfl, hg3, ⟨oa3, n3, c3, rfl⟩, p3, f3, ⟨p3b, p3c⟩, HL3⟩; clear hg3)
    | fail)
  all_goals
    go_wp2_with fail
    go_end0
    exact ⟨rfl, HL3.out⟩
end Go.Proofs.YtclldpecbocclaaGreat

