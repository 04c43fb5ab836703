/- Join: what it leaves, all in all. -/
import Derived.Test.YtdnpbhijjmlecaaG22
namespace Go.Proofs.Ytdnpbhijjmlecaa
open Go.RowKit Go.Maps
set_option maxRecDepth 100000
set_option linter.unusedSimpArgs false
set_option linter.unusedVariables false

theorem GrC.setp {w : World} {q ob : Nat} {vm vp v : Value} {x : Gr} {l : List Int} (h : GrC w q vm vp ob x) (hl : IL w v l) (ha : In (fun k => ¬ Own q vm ob k) v l) : GrC (w.setCell ⟨q, 3, none⟩ v) q vm v ob { x with parts := l } := by
  have hk : Keeps (Own q vm ob) w (w.setCell ⟨q, 3, none⟩ v) := Keeps.set w (a := ⟨q, 3, none⟩) (.inl rfl) _
  refine ⟨by have := set_box (j := 3) (v := v) h.cells; exact this, row_kept h.mem (fun k hk2 => Below.heap_setCell _ _ _ _ (fun e => h.ne_qm (by cases e; exact hk2))), hl.keeps hk ha, ?_, ha⟩
  obtain ⟨es, clock, hm, r⟩ := h.offs
  exact ⟨es, clock, (Below.heap_setCell _ _ _ _ (fun e => h.ne_qo (by cases e; rfl))).trans hm, r⟩
theorem GrC.setg {w : World} {q ob : Nat} {vm vp : Value} {x : Gr} (h : GrC w q vm vp ob x) (n : Int) : GrC (w.setCell ⟨q, 0, none⟩ (.int .i64 n)) q vm vp ob { x with gen := n } := by
  have hk : Keeps (Own q vm ob) w (w.setCell ⟨q, 0, none⟩ (.int .i64 n)) := Keeps.set w (a := ⟨q, 0, none⟩) (.inl rfl) _
  refine ⟨by have := set_box (j := 0) (v := .int .i64 n) h.cells; exact this, row_kept h.mem (fun k hk2 => Below.heap_setCell _ _ _ _ (fun e => h.ne_qm (by cases e; exact hk2))), h.parts.keeps hk h.apart, ?_, h.apart⟩
  obtain ⟨es, clock, hm, r⟩ := h.offs
  exact ⟨es, clock, (Below.heap_setCell _ _ _ _ (fun e => h.ne_qo (by cases e; rfl))).trans hm, r⟩
/-- The block of a list. -/
def blk (v : Value) (k : Nat) : Prop := ∃ off n c, v = .slice (some ⟨k, off, none⟩) n c
theorem in_blk (v : Value) (l : List Int) : In (blk v) v l := fun _ b off n c e => ⟨off, n, c, e⟩
theorem names_made {es : List En} {S : Gs} {w : World} {q b : Nat} (h : AllC w q b es S) (hn : S.gs.Pairwise fun a b => a.1 ≠ b.1) : es.Pairwise fun a b => a.name ≠ b.name := by
  rw [h.abs, List.pairwise_map] at hn
  exact hn
theorem join_end {w w1 w4 w8 w9 N : World} {Z : Nat → Prop} {q b : Nat} {es es' : List En} {S : Gs} {x : En} (hZq : Z q) (hZb : Z b) (hZe : ∀ e ∈ es, ∀ j, e.own j → Z j) (hZl : ∀ j, Z j → j < w.heap.size)
    (hb1 : Below w.heap.size w w1) (hs1 : w.heap.size + 2 ≤ w1.heap.size) (hA : AllC w4 q b es' S) (hx : x ∈ es') (hown : ∀ d ∈ es', ∀ j, d.own j → (∃ c ∈ es, c.own j) ∨ w1.heap.size ≤ j) (hk4 : Keeps (fun j => j = b) w1 w4)
    (hnm : es'.Pairwise fun a b => a.name ≠ b.name) {own' : Nat → Prop} {y' : Gr} (hk8 : Keeps x.own w4 w8) (hy : GrM w8 own' x.at_ y') (hs : ∀ j, own' j → x.own j ∨ w4.heap.size ≤ j) (hb9 : Below w8.heap.size w8 w9)
    (hN : Keeps (fun j => j = w.heap.size + 1) w9 N) {t : Td} {a : Option Addr} {c : Nat} (hl : IL w9 (.slice a t.parts.length c) t.parts) (hin : In (fun j => w8.heap.size ≤ j) (.slice a t.parts.length c) t.parts) :
    OutA Z w N q { S with gs := setG S.gs x.name y' } t (.returned (.agg #[.int .i64 t.err, .int .i64 t.mem, .int .i64 t.gen, .int .i64 t.off, .slice a t.parts.length c])) := by
  have hT := hA.turn hnm hx hk8 hy hs
  have hT9 := hT.under hb9
  have hs4 := hk4.size
  have hs8 := hk8.size
  have hs9 := hb9.size
  have hqb : q < w.heap.size ∧ b < w.heap.size := ⟨hZl q hZq, hZl b hZb⟩
  have hdl : ∀ d ∈ es', ∀ j, d.own j → j < w4.heap.size := fun d hd j hj => by obtain ⟨_, _, _, _, _, _, hz⟩ := (hA.each d hd).1; exact hz j hj
  have hyl : ∀ j, own' j → j < w8.heap.size := fun j hj => by obtain ⟨_, _, _, _, _, _, hz⟩ := hy; exact hz j hj
  have hzn : ∀ d ∈ es', ∀ j, d.own j → (Z j ∨ w.heap.size ≤ j) ∧ j ≠ w.heap.size + 1 := fun d hd j hj => by
    rcases hown d hd j hj with ⟨c, hc, hj2⟩ | h2
    · have := hZl j (hZe c hc j hj2); exact ⟨.inl (hZe c hc j hj2), by omega⟩
    · exact ⟨.inr (by omega), by omega⟩
  have hmem : ∀ d' ∈ es'.map (turnE x own' y'), ∀ j, d'.own j → (Z j ∨ w.heap.size ≤ j) ∧ j ≠ w.heap.size + 1 ∧ j < w8.heap.size := fun d' hd' j hj => by
    obtain ⟨d, hd, rfl⟩ := List.mem_map.1 hd'
    unfold turnE at hj
    split at hj
    · rcases hs j hj with h1 | h1
      · obtain ⟨g1, g2⟩ := hzn x hx j h1
        exact ⟨g1, g2, hyl j hj⟩
      · exact ⟨.inr (by omega), by omega, hyl j hj⟩
    · obtain ⟨g1, g2⟩ := hzn d hd j hj
      exact ⟨g1, g2, Nat.lt_of_lt_of_le (hdl d hd j hj) hs8⟩
  refine ⟨fun j => j = q ∨ j = b ∨ ∃ d' ∈ es'.map (turnE x own' y'), d'.own j, ?_, ?_, ?_, ?_⟩
  · have h9 : AllM w9 (fun j => j = q ∨ j = b ∨ ∃ d' ∈ es'.map (turnE x own' y'), d'.own j) q { S with gs := setG S.gs x.name y' } := ⟨b, _, hT9, .inl rfl, .inr (.inl rfl), fun d hd j hj => .inr (.inr ⟨d, hd, hj⟩), fun j hj => by
      rcases hj with rfl | rfl | ⟨d, hd, hj⟩
      · exact hT9.qlt
      · exact hT9.blt
      · have := (hmem d hd j hj).2.2; omega⟩
    refine h9.kept (fun j hj => hN.block j ?_ ?_) hN.size
    · rcases hj with rfl | rfl | ⟨d, hd, hj⟩
      · exact hT9.qlt
      · exact hT9.blt
      · have := (hmem d hd j hj).2.2; omega
    · rcases hj with rfl | rfl | ⟨d, hd, hj⟩
      · omega
      · omega
      · exact (hmem d hd j hj).2.1
  · intro j hj
    rcases hj with rfl | rfl | ⟨d, hd, hj⟩
    · exact .inl hZq
    · exact .inl hZb
    · exact (hmem d hd j hj).1
  · have k1 : Keeps Z w w1 := Keeps.of_below hb1
    have k4 : Keeps Z w w4 := k1.trans hk4 (fun j hj => .inl (by cases hj; exact hZb))
    have k8 : Keeps Z w w8 := k4.trans hk8 (fun j hj => (hzn x hx j hj).1)
    have k9 : Keeps Z w w9 := k8.trans (Keeps.of_below (S := Z) hb9) (fun _ k => .inl k)
    exact k9.trans hN (fun j hj => .inr (by omega))
  · refine ⟨a, c, rfl, hl.keeps hN (hin.mono (fun j hj => by omega)), hin.mono (fun j hj => ⟨by have := hb1.size; omega, fun h => ?_⟩)⟩
    rcases h with rfl | rfl | ⟨d, hd, hj2⟩
    · have := hA.qlt; omega
    · have := hA.blt; omega
    · have := (hmem d hd j hj2).2.2; omega
theorem made_get {gs : GL} {n : List UInt8} (h : gs.Pairwise fun a b => a.1 ≠ b.1) (y : Gr) : setG (madeG gs n) n y = putG gs n y := by
  unfold madeG putG
  cases hg : (getG gs n).isSome with
  | true => rfl
  | false =>
    simp only [Bool.false_eq_true, if_false]
    have hno : ∀ p ∈ gs, (p.1 == n) = false := fun p hp => by
      unfold getG at hg
      simp only [Option.isSome_map, Option.isSome_eq_false_iff, Option.isNone_iff_eq_none] at hg
      have := List.find?_eq_none.1 hg p hp
      simpa using this
    have hset : ∀ L : GL, (∀ p ∈ L, (p.1 == n) = false) → setG L n y = L := fun L hL => by
      unfold setG
      conv => rhs; rw [← List.map_id L]
      apply List.map_congr_left
      intro p hp
      rw [hL p hp]
      rfl
    have hins : ∀ L : GL, (∀ p ∈ L, (p.1 == n) = false) → setG (insG (n, Gr.zero) L) n y = insG (n, y) L := by
      intro L
      induction L with
      | nil => intro _; simp [insG, setG]
      | cons p r ih =>
        intro hL
        unfold insG
        split
        · show setG ((n, Gr.zero) :: p :: r) n y = _
          have h2 := hset (p :: r) hL
          unfold setG at h2 ⊢
          rw [List.map_cons, h2]
          simp
        · have h2 := ih (fun p hp => hL p (List.mem_cons_of_mem _ hp))
          have h3 := hL p (List.mem_cons_self ..)
          unfold setG at h2 ⊢
          rw [List.map_cons, h2, h3]
          rfl
    exact hins gs hno
theorem made_names {gs : GL} {n : List UInt8} (h : gs.Pairwise fun a b => a.1 ≠ b.1) : (madeG gs n).Pairwise fun a b => a.1 ≠ b.1 := by
  unfold madeG
  cases hg : (getG gs n).isSome with
  | true => exact h
  | false =>
    simp only [Bool.false_eq_true, if_false]
    have hno : ∀ p ∈ gs, p.1 ≠ n := fun p hp => by
      unfold getG at hg
      simp only [Option.isSome_map, Option.isSome_eq_false_iff, Option.isNone_iff_eq_none] at hg
      have := List.find?_eq_none.1 hg p hp
      simpa using this
    have hmem : ∀ (L : GL) (z : List UInt8 × Gr) p, p ∈ insG z L ↔ p = z ∨ p ∈ L := by
      intro L z p
      induction L with
      | nil => simp [insG]
      | cons y r ih =>
        unfold insG
        split
        · simp
        · simp only [List.mem_cons, ih]
          constructor
          · rintro (h | h | h) <;> simp [h]
          · rintro (h | h | h) <;> simp [h]
    have : ∀ L : GL, L.Pairwise (fun a b => a.1 ≠ b.1) → (∀ p ∈ L, p.1 ≠ n) → (insG (n, Gr.zero) L).Pairwise (fun a b => a.1 ≠ b.1) := by
      intro L
      induction L with
      | nil => intro _ _; simp [insG]
      | cons y r ih =>
        intro hp hL
        have hp' := List.pairwise_cons.1 hp
        unfold insG
        split
        · exact List.Pairwise.cons (fun p hp2 => (hL p hp2).symm) hp
        · refine List.Pairwise.cons (fun p hp2 => ?_) (ih hp'.2 (fun p hp => hL p (List.mem_cons_of_mem _ hp)))
          rcases (hmem _ _ _).1 hp2 with rfl | hp2
          · exact hL y (List.mem_cons_self ..)
          · exact hp'.1 p hp2
    exact this gs h hno
end Go.Proofs.Ytdnpbhijjmlecaa
