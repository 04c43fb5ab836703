/- What drop and put of the document's disk do. -/
import Derived.Test.YtpdghpmfacaglaaRef
namespace Go.Proofs.Ytpdghpmfacaglaa
open Go.RowKit Go.Maps Go.Sort
set_option maxRecDepth 100000
set_option linter.unusedSimpArgs false
set_option linter.unusedVariables false

theorem info62 : (Try.prog.info? 62).map (fun i => (i.zero, i.size, i.bytes)) = some (some (.agg #[.string ByteArray.empty, .string ByteArray.empty, .int .i64 0]), 3, 40) := by kernel_rfl

theorem flat_oneCell : ∀ l : List AF, ∀ u ∈ flat l, u.oneCell' = true
  | [], u, hu => by cases hu
  | x :: r, u, hu => by
    simp only [flat, List.mem_append] at hu
    rcases hu with hu | hu
    · simp [fcells] at hu
      rcases hu with rfl | rfl | rfl <;> rfl
    · exact flat_oneCell r u hu

theorem flat_take : ∀ (l : List AF) (i : Nat), flat (l.take i) = (flat l).take (i * 3)
  | [], i => by simp [flat]
  | x :: r, 0 => by simp [flat]
  | x :: r, i + 1 => by
    have e : (i + 1) * 3 = 3 + i * 3 := by omega
    rw [List.take_succ_cons, e]
    show fcells x ++ flat (r.take i) = (fcells x ++ flat r).take (3 + i * 3)
    rw [List.take_append, flat_take r i]
    have e2 : (fcells x).take (3 + i * 3) = fcells x := List.take_of_length_le (by simp [fcells])
    rw [e2]
    simp [fcells]

theorem flat_drop : ∀ (l : List AF) (i : Nat), flat (l.drop i) = (flat l).drop (i * 3)
  | [], i => by simp [flat]
  | x :: r, 0 => by simp [flat]
  | x :: r, i + 1 => by
    have e : (i + 1) * 3 = 3 + i * 3 := by omega
    rw [List.drop_succ_cons, e]
    show flat (r.drop i) = (fcells x ++ flat r).drop (3 + i * 3)
    rw [List.drop_append, flat_drop r i]
    have e2 : (fcells x).drop (3 + i * 3) = [] := List.drop_of_length_le (by simp [fcells])
    rw [e2]
    simp [fcells]

theorem hid {p : Prop} (h : p) : Hid p := h

/-- The cells of a part of the row. -/
theorem row_news {w : World} {T : Nat → Prop} {r size g cap : Nat} {l : List AF} (h : RefM w T r size (.slice (some ⟨g, 0, none⟩) l.length cap) l) (o : Nat) (news : List Value) (hn : ∀ j u, news[j]? = some u → (flat l)[o + j]? = some u) :
    ∀ j u, news[j]? = some u → w.cell? ((⟨g, o, none⟩ : Addr).add j) = some u := by
  intro j u hu
  have hadd : (⟨g, o, none⟩ : Addr).add j = ⟨g, o + j, none⟩ := by unfold Addr.add; split <;> simp_all
  have h0 : (⟨g, 0, none⟩ : Addr).add (o + j) = ⟨g, o + j, none⟩ := by unfold Addr.add; split <;> simp_all
  have := h.row.cells (g := g) rfl (o + j) u (hn j u hu)
  rw [h0] at this
  rw [hadd]
  exact this

theorem row3_shape {w : World} {base n : Nat} {v : Value} {xs : List Value} (h : w.ownsRow base 62 3 v n xs) : ∃ oa cap, v = .slice oa n cap := by
  obtain ⟨_, ⟨e, h0⟩ | ⟨g, cap, cur, e, _⟩⟩ := h
  · exact ⟨none, 0, by rw [e, h0]⟩
  · exact ⟨_, cap, e⟩

/-- What a call leaves of the document's disk. -/
def RAfter (T : Nat → Prop) (w w' : World) (r size : Nat) (l : List AF) : Prop :=
  ∃ T' v', RefM w' T' r size v' l ∧ (∀ k, T' k → T k ∨ w.heap.size ≤ k) ∧ (∀ k, T k → T' k) ∧ Keeps T w w'

/-- A new row stored in the disk's second cell. -/
theorem RAfter.stored {w w2 : World} {T : Nat → Prop} {r size : Nat} {v v2 : Value} {l l' : List AF} (h : RefM w T r size v l) (hk : ∀ k, k < w.heap.size → w2.heap[k]? = w.heap[k]?) (hw : w2.os = w.os ∧ w2.tape = w.tape ∧ w2.output = w.output) (hs : w.heap.size ≤ w2.heap.size)
    (ho : w2.ownsRow w.heap.size 62 3 v2 l'.length (flat l')) : RAfter T w (w2.setCell ⟨r, 1, none⟩ v2) r size l' := by
  have hrl := h.below r h.self
  have hsz : (w2.setCell ⟨r, 1, none⟩ v2).heap.size = w2.heap.size := by simp [World.setCell]
  have hoth : ∀ k, k ≠ r → (w2.setCell ⟨r, 1, none⟩ v2).heap[k]? = w2.heap[k]? := fun k hk => Below.heap_setCell w2 _ _ k hk
  have hcr : (w2.setCell ⟨r, 1, none⟩ v2).heap[r]? = some (.cells #[.int .i64 (size : Int), v2] 59 (0, 0)) := by
    simp [World.setCell, Array.getElem?_modify, hk r hrl, h.cells]
  refine ⟨fun k => T k ∨ (w.heap.size ≤ k ∧ k < w2.heap.size), v2, ⟨fun k hk' => ?_, .inl h.self, hcr, ⟨ho.1, ?_⟩, fun k hk' => .inr ⟨(ho.lt k hk').1, (ho.lt k hk').2⟩⟩, fun k hk' => ?_, fun k hk' => .inl hk', ⟨hw.1, hw.2.1, hw.2.2, by omega, fun k hkl hT => (hoth k (fun e => hT (by rw [e]; exact h.self))).trans (hk k hkl)⟩⟩
  · rcases hk' with h1 | h1
    · have := h.below k h1; omega
    · omega
  · rcases ho.2 with h0 | ⟨g, cap, cur, e, hb0, hg, rest⟩
    · exact .inl h0
    · exact .inr ⟨g, cap, cur, e, Nat.zero_le _, (hoth g (by omega)).trans hg, rest⟩
  · rcases hk' with h1 | h1
    · exact .inl h1
    · exact .inr h1.1

set_option maxHeartbeats 500000 in
theorem drop_walk {w : World} {T : Nat → Prop} {r size g cap : Nat} {l : List AF} (h : RefM w T r size (.slice (some ⟨g, 0, none⟩) l.length cap) l) (hl : l.length ≤ 1000) (hcap : l.length ≤ cap) (hcm : cap ≤ 9223372036854775807) (i : Nat) (hi : i < l.length) :
    Calls Try.prog 51 #[.pointer (some ⟨r, 0, none⟩), .int .i64 (i : Int)] w fun e w' => e = .returned (.tuple #[]) ∧ RAfter T w w' r size (l.take i ++ l.drop (i + 1)) := by
  obtain ⟨i0, hi0, hz0, hz1, hz2⟩ := info_parts info62
  have hrl := h.below r h.self
  have c1 := h.c1
  have ca : ∀ o, (w.alloc o).cell? ⟨r, 1, none⟩ = some (.slice (some ⟨g, 0, none⟩) l.length cap) := fun o => (World.cell?_of_block (a := ⟨r, 1, none⟩) (Below.heap_alloc w o r hrl)).trans c1
  have hii : (i : Int) ≤ (l.length : Int) := by omega
  have hic : i ≤ cap := by omega
  have hadd : ∀ o j, (⟨g, o, none⟩ : Addr).add j = ⟨g, o + j, none⟩ := fun o j => by unfold Addr.add; split <;> simp_all
  have HA1 : Hid (∀ o, ∀ j u, (flat (l.take i))[j]? = some u → (w.alloc o).cell? ((⟨g, 0, none⟩ : Addr).add j) = some u) := fun o => row_news (h.under ((Below.refl _ _).alloc (Nat.le_refl _) _)) 0 _ (fun j u hu => by
    rw [flat_take, List.getElem?_take] at hu
    split at hu
    · rw [Nat.zero_add]; exact hu
    · cases hu)
  have hlt : (flat (l.take i)).length = i * 3 := by rw [flat_length, List.length_take]; congr 1; omega
  have hgw : g < w.heap.size := h.below g (h.rowT g rfl)
  have HC : Hid (∀ w1 : World, (∀ k, k < w.heap.size → w1.heap[k]? = w.heap[k]?) → w1.cell? ⟨r, 1, none⟩ = some (.slice (some ⟨g, 0, none⟩) l.length cap) ∧ w1.frozen? ⟨r, 1, none⟩ = false) := fun w1 hk =>
    ⟨(World.cell?_of_block (a := ⟨r, 1, none⟩) (hk r hrl)).trans c1, (World.frozen?_of_block (a := ⟨r, 1, none⟩) (hk r hrl)).trans h.f1⟩
  have HB : Hid (∀ w1 : World, (w.alloc (.cells #[] 62)).grownBy w1 (some w.heap.size) → ∀ k, k < w.heap.size → w1.heap[k]? = w.heap[k]?) := fun w1 hg k hk => (hg.block k (by simp; omega) (by simp; omega)).trans (Below.heap_alloc w _ k hk)
  have hi1 : (i : Int) + 1 ≤ (l.length : Int) := by omega
  have hld : (flat (l.drop (i + 1))).length = (l.length - (i + 1)) * 3 := by rw [flat_length, List.length_drop]
  have HA2g : ∀ w1 : World, (∀ k, k < w.heap.size → w1.heap[k]? = w.heap[k]?) → ∀ j u, (flat (l.drop (i + 1)))[j]? = some u → w1.cell? ((⟨g, (i + 1) * 3, none⟩ : Addr).add j) = some u := fun w1 hk j u hu => by
    have e := row_news h ((i + 1) * 3) (flat (l.drop (i + 1))) (fun j u hu => by rw [flat_drop, List.getElem?_drop] at hu; exact hu) j u hu
    rw [hadd] at e ⊢
    exact (World.cell?_of_block (a := ⟨g, (i + 1) * 3 + j, none⟩) (hk g hgw)).trans e
  have HB2 : Hid (∀ (w1 w2 : World) (v1 : Value), (w.alloc (.cells #[] 62)).grownBy w1 (some w.heap.size) → w1.ownsRow w.heap.size 62 3 v1 (0 + i) ([] ++ flat (l.take i)) → w1.grownBy w2 v1.ownBlock → ∀ k, k < w.heap.size → w2.heap[k]? = w.heap[k]?) := fun w1 w2 v1 g1 o1 g2 k hk => by
    refine (g2.block k (by have := g1.size; simp at this; omega) (fun e => ?_)).trans (HB.out w1 g1 k hk)
    have := (o1.lt k e.symm).1
    omega
  have HEnd : Hid (∀ (w1 w2 : World) (v1 v2 : Value), (w.alloc (.cells #[] 62)).grownBy w1 (some w.heap.size) → w1.ownsRow w.heap.size 62 3 v1 (0 + i) ([] ++ flat (l.take i)) → w1.grownBy w2 v1.ownBlock → w2.ownsRow w.heap.size 62 3 v2 (0 + i + (l.length - (i + 1))) ([] ++ flat (l.take i) ++ flat (l.drop (i + 1))) →
      RAfter T w (w2.setCell ⟨r, 1, none⟩ v2) r size (l.take i ++ l.drop (i + 1))) := fun w1 w2 v1 v2 g1 o1 g2 o2 => by
    have hk := HB2.out w1 w2 v1 g1 o1 g2
    have hs : w.heap.size ≤ w2.heap.size := by have a := g1.size; simp at a; have b := g2.size; omega
    refine RAfter.stored h hk ⟨g2.os.trans g1.os, g2.tape.trans g1.tape, g2.output.trans g1.output⟩ hs ?_
    have e1 : 0 + i + (l.length - (i + 1)) = (l.take i ++ l.drop (i + 1)).length := by simp; omega
    rw [← e1, flat_append]
    exact o2
  have H0 : Hid (RefM w T r size (.slice (some ⟨g, 0, none⟩) l.length cap) l) := h
  clear h ca
  by_cases hcc : cap = i + 1
  · subst hcc
    have hm0 : l.length - (i + 1) = 0 := by omega
    have HA2 : Hid (∀ w1 : World, (∀ k, k < w.heap.size → w1.heap[k]? = w.heap[k]?) → ∀ j u, (flat (l.drop (i + 1)))[j]? = some u → w1.cell? ((⟨g, 0, none⟩ : Addr).add j) = some u) := fun w1 hk j u hu => by
      rw [List.drop_of_length_le (by omega)] at hu
      simp [flat] at hu
    have hld0 : (flat (l.drop (i + 1))).length = 0 * 3 := by rw [hld, hm0]
    have HEnd0 := HEnd.out
    simp only [hm0] at HEnd0
    have HEnd1 := hid HEnd0
    clear HEnd0
    clear hm0 HA2g
    have hca : ∀ o, (w.alloc o).cell? ⟨r, 1, none⟩ = some (.slice (some ⟨g, 0, none⟩) l.length (i + 1)) := fun o => (HC.out _ (fun k hk => Below.heap_alloc w o k hk)).1
    go_enter Try.func51, Try.ntmps51
    go_wp2_with (first | (at_builtin; refine wpList_append_own _ rfl _ _ 57 rfl w.heap.size 62 i0 _ 3 40 Try.underlying57 hi0 hz0 hz1 hz2 rfl (by decide) _ 0 [] rfl (World.ownsRow_made w #[] 0 (Nat.le_refl _) (by decide) rfl) ⟨g, 0, none⟩ i (i + 1) (flat (l.take i)) rfl hlt (HA1.out _) (flat_oneCell _) (by unfold maxLen; omega) (by omega) (by simp) ?_; intro v1 w1 hown1 hg1 hnil1; obtain ⟨cc1, ff1⟩ := HC.out w1 (HB.out w1 hg1); have hsz1 := hg1.size; clear HA1) | (at_builtin; go_must (refine wpList_append_own _ rfl _ _ 57 rfl w.heap.size 62 i0 _ 3 40 Try.underlying57 hi0 hz0 hz1 hz2 rfl (by decide) v1 (0 + i) ([] ++ flat (l.take i)) rfl hown1 ⟨g, 0, none⟩ 0 0 (flat (l.drop (i + 1))) rfl hld0 (HA2.out w1 (HB.out w1 hg1)) (flat_oneCell _) (by unfold maxLen; omega) (by omega) (by simp at hsz1; omega) ?_); intro v2 w2 hown2 hg2 hnil2; obtain ⟨cc2, ff2⟩ := HC.out w2 (HB2.out w1 w2 v1 hg1 hown1 hg2); obtain ⟨oa2, ca2, hv2⟩ := row3_shape hown2; subst hv2))
    go_end0
    have hfin := HEnd1.out w1 w2 v1 _ hg1 hown1 hg2 hown2
    rw [Nat.zero_add, Nat.add_zero] at hfin
    exact ⟨rfl, hfin⟩
  · have HA2 : Hid (∀ w1 : World, (∀ k, k < w.heap.size → w1.heap[k]? = w.heap[k]?) → ∀ j u, (flat (l.drop (i + 1)))[j]? = some u → w1.cell? ((⟨g, (i + 1) * 3, none⟩ : Addr).add j) = some u) := HA2g
    clear HA2g
    have hca : ∀ o, (w.alloc o).cell? ⟨r, 1, none⟩ = some (.slice (some ⟨g, 0, none⟩) l.length cap) := fun o => (HC.out _ (fun k hk => Below.heap_alloc w o k hk)).1
    have hcn : ¬ (cap - (i + 1) = 0) := by omega
    go_enter Try.func51, Try.ntmps51
    go_wp2_with (first | (at_builtin; refine wpList_append_own _ rfl _ _ 57 rfl w.heap.size 62 i0 _ 3 40 Try.underlying57 hi0 hz0 hz1 hz2 rfl (by decide) _ 0 [] rfl (World.ownsRow_made w #[] 0 (Nat.le_refl _) (by decide) rfl) ⟨g, 0, none⟩ i cap (flat (l.take i)) rfl hlt (HA1.out _) (flat_oneCell _) (by unfold maxLen; omega) (by omega) (by simp) ?_; intro v1 w1 hown1 hg1 hnil1; obtain ⟨cc1, ff1⟩ := HC.out w1 (HB.out w1 hg1); have hsz1 := hg1.size; clear HA1) | (at_builtin; refine wpList_append_own _ rfl _ _ 57 rfl w.heap.size 62 i0 _ 3 40 Try.underlying57 hi0 hz0 hz1 hz2 rfl (by decide) v1 (0 + i) ([] ++ flat (l.take i)) rfl hown1 ⟨g, (i + 1) * 3, none⟩ (l.length - (i + 1)) (cap - (i + 1)) (flat (l.drop (i + 1))) rfl hld (HA2.out w1 (HB.out w1 hg1)) (flat_oneCell _) (by unfold maxLen; omega) (by omega) (by simp at hsz1; omega) ?_; intro v2 w2 hown2 hg2 hnil2; obtain ⟨cc2, ff2⟩ := HC.out w2 (HB2.out w1 w2 v1 hg1 hown1 hg2); obtain ⟨oa2, ca2, hv2⟩ := row3_shape hown2; subst hv2))
    go_end0
    have hfin := HEnd.out w1 w2 v1 _ hg1 hown1 hg2 hown2
    rw [Nat.zero_add] at hfin
    exact ⟨rfl, hfin⟩
end Go.Proofs.Ytpdghpmfacaglaa
