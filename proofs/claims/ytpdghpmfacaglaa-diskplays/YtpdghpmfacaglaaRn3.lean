/- What the document's disk does: put on any row, drop. -/
import Derived.Test.YtpdghpmfacaglaaRn2
import Derived.Laws.AppendOwnNone
namespace Go.Proofs.Ytpdghpmfacaglaa
open Go.RowKit Go.Maps Go.Sort
set_option maxRecDepth 100000
set_option linter.unusedSimpArgs false
set_option linter.unusedVariables false

set_option maxHeartbeats 1600000 in
theorem rput_nil {w : World} {T : Nat → Prop} {r size : Nat} (h : RefM w T r size (.slice none 0 0) []) (x : AF) :
    Calls Try.prog 50 #[.pointer (some ⟨r, 0, none⟩), .agg #[.string (strOf x.name), .string (strOf x.bs), .int .i64 (x.safe : Int)]] w fun e w' => e = .returned (.tuple #[]) ∧ RAfter T w w' r size [x] := by
  obtain ⟨i0, hi0, hz0, hz1, hz2⟩ := info_parts info62
  have hrl := h.below r h.self
  have H0 := hid h
  have c1 := h.c1
  have hne : ¬ r = w.heap.size := by omega
  have HC : Hid (∀ w1 : World, (∀ k, k < w.heap.size → w1.heap[k]? = w.heap[k]?) → w1.cell? ⟨r, 1, none⟩ = some (.slice none 0 0) ∧ w1.frozen? ⟨r, 1, none⟩ = false) := fun w1 hk =>
    ⟨(World.cell?_of_block (a := ⟨r, 1, none⟩) (hk r hrl)).trans c1, (World.frozen?_of_block (a := ⟨r, 1, none⟩) (hk r hrl)).trans h.f1⟩
  clear h
  have hb0 : Below w.heap.size w (w.alloc (.cells #[.string (strOf x.name), .string (strOf x.bs), .int .i64 (x.safe : Int)] 62)) := (Below.refl _ _).alloc (Nat.le_refl _) _
  have HB : Hid (∀ k, Below w.heap.size w ((w.alloc (.cells #[.string (strOf x.name), .string (strOf x.bs), .int .i64 (x.safe : Int)] 62)).drewN k)) := fun k => below_drewN hb0 k
  have HBox : Hid (∀ k, ((w.alloc (.cells #[.string (strOf x.name), .string (strOf x.bs), .int .i64 (x.safe : Int)] 62)).drewN k).heap[w.heap.size]? = some (.cells #[.string (strOf x.name), .string (strOf x.bs), .int .i64 (x.safe : Int)] 62)) := fun k => heap_alloc_new w _
  have HSz : Hid (∀ k, ((w.alloc (.cells #[.string (strOf x.name), .string (strOf x.bs), .int .i64 (x.safe : Int)] 62)).drewN k).heap.size = w.heap.size + 1) := fun k => by show (w.heap.push _).size = _; simp
  clear hb0
  go_enter Try.func50, Try.ntmps50
  go_wp2
  refine wp_loop_rounds 1 ?_
  rw [rounds_succ]
  go_wp2_with fail
  go_quiet (fail)
  generalize hW1 : (w.alloc (.cells #[.string (strOf x.name), .string (strOf x.bs), .int .i64 (x.safe : Int)] 62)).drewN nq = W1 at *
  have HB1 := hid (HB.out nq)
  have HX1 := hid (HBox.out nq)
  have HS1 := hid (HSz.out nq)
  rw [hW1] at HB1 HX1 HS1
  clear hW1 HB HBox HSz
  have hs1 : w.heap.size < W1.heap.size := by have := HS1.out; omega
  have hca : ∀ o, (W1.alloc o).cell? ⟨r, 1, none⟩ = some (.slice none 0 0) := fun o => (HC.out _ (fun k hk => (Below.heap_alloc W1 o k (by omega)).trans (HB1.out.block k hk))).1
  have hb0 : ∀ o, (W1.alloc o).cell? ⟨w.heap.size, 0, none⟩ = some (.string (strOf x.name)) := fun o => by simp [World.cell?, Below.heap_alloc W1 o w.heap.size hs1, HX1.out]
  have hb1 : ∀ o, (W1.alloc o).cell? ⟨w.heap.size, 1, none⟩ = some (.string (strOf x.bs)) := fun o => by simp [World.cell?, Below.heap_alloc W1 o w.heap.size hs1, HX1.out]
  have hb2 : ∀ o, (W1.alloc o).cell? ⟨w.heap.size, 2, none⟩ = some (.int .i64 (x.safe : Int)) := fun o => by simp [World.cell?, Below.heap_alloc W1 o w.heap.size hs1, HX1.out]
  have HN : Hid (∀ j u, (fcells x)[j]? = some u → ((W1.alloc (.cells #[] 62)).alloc (.cells #[.string (strOf x.name), .string (strOf x.bs), .int .i64 (x.safe : Int)] 62)).cell? ((⟨W1.heap.size + 1, 0, none⟩ : Addr).add j) = some u) := fun j u hu => by
    have hadd : (⟨W1.heap.size + 1, 0, none⟩ : Addr).add j = ⟨W1.heap.size + 1, j, none⟩ := by unfold Addr.add; split <;> simp_all
    rw [hadd]
    have e : ((W1.alloc (.cells #[] 62)).alloc (.cells #[.string (strOf x.name), .string (strOf x.bs), .int .i64 (x.safe : Int)] 62)).heap[W1.heap.size + 1]? = some (.cells #[.string (strOf x.name), .string (strOf x.bs), .int .i64 (x.safe : Int)] 62) := by
      have := heap_alloc_new (W1.alloc (.cells #[] 62)) (.cells #[.string (strOf x.name), .string (strOf x.bs), .int .i64 (x.safe : Int)] 62)
      simpa using this
    simp only [World.cell?, e]
    simpa [fcells] using hu
  have HE : Hid (∀ w2 v2, w2.ownsRow W1.heap.size 62 3 v2 (0 + 1) ([] ++ fcells x) → ((W1.alloc (.cells #[] 62)).alloc (.cells #[.string (strOf x.name), .string (strOf x.bs), .int .i64 (x.safe : Int)] 62)).grownBy w2 (some W1.heap.size) → (∀ k, k < w.heap.size → w2.heap[k]? = w.heap[k]?) ∧ RAfter T w (w2.setCell ⟨r, 1, none⟩ v2) r size [x]) := fun w2 v2 ho hg => by
    have hk : ∀ k, k < w.heap.size → w2.heap[k]? = w.heap[k]? := fun k hk => by
      rw [hg.block k (by simp; omega) (by simp; omega), Below.heap_alloc _ _ k (by simp; omega), Below.heap_alloc _ _ k (by omega)]
      exact HB1.out.block k hk
    have hsz := hg.size
    simp at hsz
    refine ⟨hk, RAfter.stored H0.out hk ⟨hg.os.trans HB1.out.os, hg.tape.trans HB1.out.tape, hg.output.trans HB1.out.output⟩ (by omega) ⟨by simpa [flat] using ho.1, ?_⟩⟩
    rcases ho.2 with h0 | ⟨g3, cap3, cur, e, hb0, rest⟩
    · simp at h0
    · exact .inr ⟨g3, cap3, cur, by simpa using e, by omega, by simpa [flat] using rest⟩
  go_wp2_with (first
    | (at_builtin; refine wpList_append_own_none rfl _ _ 57 rfl W1.heap.size 62 i0 3 Try.underlying57 hi0 _ 0 [] rfl (World.ownsRow_made W1 #[] 0 (Nat.le_refl _) (by decide) rfl) rfl ?_)
    | (at_builtin; refine wpList_append_own _ rfl _ _ 57 rfl W1.heap.size 62 i0 _ 3 40 Try.underlying57 hi0 hz0 hz1 hz2 rfl (by decide) _ 0 [] rfl ((World.ownsRow_made W1 #[] 0 (Nat.le_refl _) (by decide) rfl).alloc _) ⟨W1.heap.size + 1, 0, none⟩ 1 1 (fcells x) rfl rfl HN.out (fcells_one x) (by unfold maxLen; omega) (by omega) (by simp; omega) ?_; intro v2 w2 hown2 hg2 hnil2; have HE2 := hid (HE.out w2 v2 hown2 hg2); obtain ⟨cc2, ff2⟩ := HC.out w2 HE2.out.1)
    | (at_builtin; refine wpList_append_own_none rfl _ _ 57 rfl W1.heap.size 62 i0 3 Try.underlying57 hi0 v2 (0 + 1) ([] ++ fcells x) rfl hown2 rfl ?_; obtain ⟨oa3, ca3, hv3⟩ := row3_shape hown2; subst hv3)
    | fail)
  go_end0
  exact ⟨rfl, HE2.out.2⟩

theorem rput_any {w : World} {T : Nat → Prop} {r size : Nat} {v : Value} {l : List AF} (h : RefM w T r size v l) (hl : l.length ≤ 1000) (x : AF) :
    Calls Try.prog 50 #[.pointer (some ⟨r, 0, none⟩), .agg #[.string (strOf x.name), .string (strOf x.bs), .int .i64 (x.safe : Int)]] w fun e w' => e = .returned (.tuple #[]) ∧ RAfter T w w' r size (l.take (pos x.name l) ++ x :: l.drop (pos x.name l)) := by
  rcases h.row.2 with ⟨e, h0⟩ | ⟨g, cap, cur, e, hb, hg, hn, hc, hs, ht⟩
  · have hl0 : l = [] := List.eq_nil_of_length_eq_zero h0
    subst hl0
    subst e
    exact rput_nil h x
  · subst e
    exact rput_some h hl hn (by unfold maxLen at hc; exact hc) x
theorem rdrop_any {w : World} {T : Nat → Prop} {r size : Nat} {v : Value} {l : List AF} (h : RefM w T r size v l) (hl : l.length ≤ 1000) (hs : Srt l) {i : Nat} {x : AF} (hx : l[i]? = some x) :
    Calls Try.prog 51 #[.pointer (some ⟨r, 0, none⟩), .int .i64 (i : Int)] w fun e w' => e = .returned (.tuple #[]) ∧ RAfter T w w' r size (adel l x.name) := by
  obtain ⟨g, cap, rfl, hcap, hcm⟩ := h.place hx
  rw [adel_at hs hx]
  exact drop_walk h hl hcap (by unfold maxLen at hcm; exact hcm) i (List.getElem?_eq_some_iff.1 hx).1
/-- put of a name that is not there. -/
theorem rput_new {w : World} {T : Nat → Prop} {r size : Nat} {v : Value} {l : List AF} (h : RefM w T r size v l) (hl : l.length ≤ 1000) (hs : Srt l) (x : AF) (hn : ∀ y ∈ l, y.name ≠ x.name) :
    Calls Try.prog 50 #[.pointer (some ⟨r, 0, none⟩), .agg #[.string (strOf x.name), .string (strOf x.bs), .int .i64 (x.safe : Int)]] w fun e w' => e = .returned (.tuple #[]) ∧ RAfter T w w' r size (aput l x) := by
  rw [aput_no hs hn]
  exact rput_any h hl x
end Go.Proofs.Ytpdghpmfacaglaa
