/- seek. -/
import Derived.Test.YtlgaianlkbaedaaH25
namespace Go.Proofs.Ytlgaianlkbaedaa
open Go.RowKit Go.Maps Go.Sort
set_option maxRecDepth 100000
set_option linter.unusedSimpArgs false
set_option linter.unusedVariables false

/-- Where seek stands: its two captured variables, and where the answer goes. -/
structure Sk (w W : World) (q : Nat) (f : Value) (c : Array Value) : Prop where
  below : Below w.heap.size w W
  bs : W.heap[w.heap.size]? = some (.cells #[.pointer (some ⟨q, 0, none⟩)] 28)
  bb : W.heap[w.heap.size + 1]? = some (.cells #[f] 85)
  bo : W.heap[w.heap.size + 1 + 1]? = some (.cells c 83)
theorem Sk.laid (w : World) (q : Nat) (f : Value) : Sk w (((w.alloc (.cells #[.pointer (some ⟨q, 0, none⟩)] 28)).alloc (.cells #[f] 85)).alloc (.cells #[.int .i64 0, .int .i64 0, .int .i64 0, .string ⟨#[]⟩] 83)) q f #[.int .i64 0, .int .i64 0, .int .i64 0, .string ⟨#[]⟩] := by
  have b1 : Below w.heap.size w (w.alloc (.cells #[.pointer (some ⟨q, 0, none⟩)] 28)) := (Below.refl _ _).alloc (Nat.le_refl _) _
  have z1 : (w.alloc (.cells #[.pointer (some ⟨q, 0, none⟩)] 28)).heap.size = w.heap.size + 1 := by simp
  have z2 : ((w.alloc (.cells #[.pointer (some ⟨q, 0, none⟩)] 28)).alloc (.cells #[f] 85)).heap.size = w.heap.size + 1 + 1 := by simp
  refine ⟨(b1.alloc (by omega) _).alloc (by omega) _, ?_, ?_, ?_⟩
  · rw [Below.heap_alloc _ _ _ (by omega), Below.heap_alloc _ _ _ (by omega)]
    exact heap_alloc_new _ _
  · rw [Below.heap_alloc _ _ _ (by omega), ← z1]
    exact heap_alloc_new _ _
  · rw [← z2]
    exact heap_alloc_new _ _
theorem Sk.lt {w W q f c} (h : Sk w W q f c) : w.heap.size + 1 + 1 < W.heap.size := (Array.getElem?_eq_some_iff.1 h.bo).1
theorem Sk.next {w W W' q f c} (h : Sk w W q f c) (hb : Below W.heap.size W W') : Sk w W' q f c := by
  have := h.lt
  exact ⟨h.below.trans (hb.mono (by omega)), (hb.block _ (by omega)).trans h.bs, (hb.block _ (by omega)).trans h.bb, (hb.block _ (by omega)).trans h.bo⟩
theorem Sk.vars {w W q f c} (h : Sk w W q f c) : W.cell? ⟨w.heap.size, 0, none⟩ = some (.pointer (some ⟨q, 0, none⟩)) ∧ W.cell? ⟨w.heap.size + 1, 0, none⟩ = some f := ⟨cell_at h.bs rfl, cell_at h.bb rfl⟩
theorem Sk.outs {w W q f} {u0 u1 u2 u3 : Value} (h : Sk w W q f #[u0, u1, u2, u3]) : (W.cell? ⟨w.heap.size + 1 + 1, 0, none⟩ = some u0 ∧ W.cell? ⟨w.heap.size + 1 + 1, 1, none⟩ = some u1 ∧ W.cell? ⟨w.heap.size + 1 + 1, 2, none⟩ = some u2 ∧ W.cell? ⟨w.heap.size + 1 + 1, 3, none⟩ = some u3) ∧ ∀ j, W.frozen? ⟨w.heap.size + 1 + 1, j, none⟩ = false :=
  ⟨⟨cell_at h.bo rfl, cell_at h.bo rfl, cell_at h.bo rfl, cell_at h.bo rfl⟩, frozen_blk h.bo⟩
theorem Sk.set {w W q f c} (h : Sk w W q f c) (j : Nat) (u : Value) : Sk w (W.setCell ⟨w.heap.size + 1 + 1, j, none⟩ u) q f (c.setIfInBounds j u) := by
  refine ⟨⟨h.below.os, h.below.tape, h.below.output, by rw [set_size]; exact h.below.size, fun k hk => (Below.heap_setCell W ⟨w.heap.size + 1 + 1, j, none⟩ u k (by show _ ≠ w.heap.size + 1 + 1; omega)).trans (h.below.block k hk)⟩, (Below.heap_setCell W ⟨w.heap.size + 1 + 1, j, none⟩ u _ (by show _ ≠ w.heap.size + 1 + 1; omega)).trans h.bs, (Below.heap_setCell W ⟨w.heap.size + 1 + 1, j, none⟩ u _ (by show _ ≠ w.heap.size + 1 + 1; omega)).trans h.bb, set_box h.bo⟩
theorem Sk.off3 {w W q f c} (h : Sk w W q f c) {p : Nat} (hp : w.heap.size + 1 + 1 < p) (u0 u1 u2 : Value) : Sk w (((W.setCell ⟨p, 0, none⟩ u0).setCell ⟨p, 1, none⟩ u1).setCell ⟨p, 2, none⟩ u2) q f c := by
  have hb : ∀ k, k < p → (((W.setCell ⟨p, 0, none⟩ u0).setCell ⟨p, 1, none⟩ u1).setCell ⟨p, 2, none⟩ u2).heap[k]? = W.heap[k]? := fun k hk => three_keep W p k u0 u1 u2 (by omega)
  exact ⟨((h.below.setCell (by show _ ≤ p; omega) _).setCell (by show _ ≤ p; omega) _).setCell (by show _ ≤ p; omega) _, (hb _ (by omega)).trans h.bs, (hb _ (by omega)).trans h.bb, (hb _ hp).trans h.bo⟩
theorem Sk.off4 {w W q f c} (h : Sk w W q f c) {p : Nat} (hp : w.heap.size + 1 + 1 < p) (u0 u1 u2 u3 : Value) : Sk w ((((W.setCell ⟨p, 0, none⟩ u0).setCell ⟨p, 1, none⟩ u1).setCell ⟨p, 2, none⟩ u2).setCell ⟨p, 3, none⟩ u3) q f c := by
  have h3 := h.off3 hp u0 u1 u2
  exact ⟨h3.below.setCell (by show _ ≤ p; omega) _, (Below.heap_setCell _ ⟨p, 3, none⟩ _ _ (by show _ ≠ p; omega)).trans h3.bs, (Below.heap_setCell _ ⟨p, 3, none⟩ _ _ (by show _ ≠ p; omega)).trans h3.bb, (Below.heap_setCell _ ⟨p, 3, none⟩ _ _ (by show _ ≠ p; omega)).trans h3.bo⟩
theorem Sk.put {w W q f} {v0 v1 v2 v3 : Value} (h : Sk w W q f #[v0, v1, v2, v3]) (u0 u1 u2 u3 : Value) : Sk w ((((W.setCell ⟨w.heap.size + 1 + 1, 0, none⟩ u0).setCell ⟨w.heap.size + 1 + 1, 1, none⟩ u1).setCell ⟨w.heap.size + 1 + 1, 2, none⟩ u2).setCell ⟨w.heap.size + 1 + 1, 3, none⟩ u3) q f #[u0, u1, u2, u3] :=
  (((h.set 0 u0).set 1 u1).set 2 u2).set 3 u3
def walkL (P : Mk → Bool) : Nat → Mk → List UInt8 → Mk × List UInt8
  | 0, m, l => (m, l)
  | f + 1, m, l => match stepL m l with
    | none => (m, l)
    | some (_, m', l') => if P m' then (m, l) else walkL P f m' l'
theorem walkL_none {P : Mk → Bool} {m : Mk} {l : List UInt8} {R : Mk × List UInt8} (h : stepL m l = none) (hw : ∃ f, l.length < f ∧ walkL P f m l = R) : R = (m, l) := by
  obtain ⟨f, hf, rfl⟩ := hw
  cases f with
  | zero => omega
  | succ f => unfold walkL; rw [h]
theorem walkL_stop {P : Mk → Bool} {m m2 : Mk} {b : Bat} {l l2 : List UInt8} {R : Mk × List UInt8} (h : stepL m l = some (b, m2, l2)) (hP : P m2 = true) (hw : ∃ f, l.length < f ∧ walkL P f m l = R) : R = (m, l) := by
  obtain ⟨f, hf, rfl⟩ := hw
  cases f with
  | zero => omega
  | succ f => unfold walkL; rw [h]; simp [hP]
theorem walkL_go {P : Mk → Bool} {m m2 : Mk} {b : Bat} {l l2 : List UInt8} {R : Mk × List UInt8} (h : stepL m l = some (b, m2, l2)) (hP : P m2 = false) (hlt : l2.length < l.length) (hw : ∃ f, l.length < f ∧ walkL P f m l = R) : ∃ f, l2.length < f ∧ walkL P f m2 l2 = R := by
  obtain ⟨f, hf, rfl⟩ := hw
  cases f with
  | zero => omega
  | succ f =>
    refine ⟨f, by omega, ?_⟩
    conv => rhs; unfold walkL
    rw [h]; simp [hP]
theorem cells4 {W : World} {c : Nat} {u0 u1 u2 u3 : Value} {T : TypeId} (h : W.heap[c]? = some (.cells #[u0, u1, u2, u3] T)) : W.cell? ⟨c, 0, none⟩ = some u0 ∧ W.cell? ⟨c, 1, none⟩ = some u1 ∧ W.cell? ⟨c, 2, none⟩ = some u2 ∧ W.cell? ⟨c, 3, none⟩ = some u3 := ⟨cell_at h rfl, cell_at h rfl, cell_at h rfl, cell_at h rfl⟩
/-- What seek tells, if the end is beyond. -/
def SeekPost (P : Mk → Bool) (base : Nat) (ix : List Mk) (l : List UInt8) (e : Ending) : Prop :=
  ∃ (r : Nat) (fr : Mk), r ≤ ix.length ∧ (r = 0 ∧ fr = ⟨base, 0, 0⟩ ∨ ix[r - 1]? = some fr ∧ 0 < r ∧ P fr = false) ∧ (∀ x, ix[r]? = some x → P x = true) ∧ e = .returned (.agg #[.int .i64 ((walkL P (l.length + 1) fr (l.drop fr.at_)).1.base : Int), .int .i64 ((walkL P (l.length + 1) fr (l.drop fr.at_)).1.at_ : Int), .int .i64 ((walkL P (l.length + 1) fr (l.drop fr.at_)).1.nth : Int), .string (strOf (walkL P (l.length + 1) fr (l.drop fr.at_)).2)])
theorem SD.row {w W : World} {B q a base name m ix size fs} (h : SD w B q a base name m ix size fs) (hb : Below w.heap.size w W) (t : Nat) (x : Mk) (hx : ix[t]? = some x) : ∃ g cap, W.cell? ⟨q, 6, none⟩ = some (.slice (some ⟨g, 0, none⟩) ix.length cap) ∧ W.cell? ⟨g, t * 3, none⟩ = some (.int .i64 (x.base : Int)) ∧ W.cell? ⟨g, t * 3 + 1, none⟩ = some (.int .i64 (x.at_ : Int)) ∧ W.cell? ⟨g, t * 3 + 2, none⟩ = some (.int .i64 (x.nth : Int)) := by
  obtain ⟨U, S, v, h1, h2, h3, h4⟩ := h
  have hil := (List.getElem?_eq_some_iff.1 hx).1
  obtain ⟨oa, cap, rfl, _, _, hoa⟩ := h1.shape
  obtain ⟨g, rfl⟩ := hoa (by omega)
  obtain ⟨k0, k1, k2, k3, k4, k5, k6⟩ := (h1.under hb).c
  obtain ⟨r0, r1, r2⟩ := (h1.under hb).at_ t x hx
  exact ⟨g, cap, k6, r0, r1, r2⟩
theorem SD.read {w W : World} {B q a base name m ix size fs} (h : SD w B q a base name m ix size fs) (hb : Below w.heap.size w W) (hn : name.size ≤ maxLen) : Calls Try.prog 50 #[.pointer (some ⟨a, 0, none⟩), .string name] W fun e w' => e = .returned (.tuple #[.string (strOf (abytes fs name.data.toList)), .int .i64 (synE fs name : Int)]) ∧ Below W.heap.size W w' := by
  obtain ⟨U, S, v, h1, h2, h3, h4⟩ := h
  exact readA (h2.under hb) name hn
theorem SD.small {w : World} {B q a base name m ix size fs} (h : SD w B q a base name m ix size fs) : (abytes fs name.data.toList).length ≤ 16777216 := by
  obtain ⟨U, S, v, h1, h2, h3, h4⟩ := h
  exact h2.small _
theorem SD.cs2 {w W : World} {B q a base name m ix size fs} (h : SD w B q a base name m ix size fs) (hb : Below w.heap.size w W) : W.cell? ⟨q, 2, none⟩ = some (.int .i64 (base : Int)) ∧ ∃ oa cap, W.cell? ⟨q, 6, none⟩ = some (.slice oa ix.length cap) := by
  obtain ⟨U, S, v, h1, h2, h3, h4⟩ := h
  obtain ⟨oa, cap, e, _⟩ := h1.shape
  obtain ⟨k0, k1, k2, k3, k4, k5, k6⟩ := (h1.under hb).c
  exact ⟨k2, oa, cap, by rw [k6, e]⟩
set_option maxHeartbeats 3200000 in
theorem seek_no_40 {w : World} {B q a base name m ix size fs} (h : SD w B q a base name m ix size fs) (g : Nat) (N : Int) (hg : w.cell? ⟨g, 0, none⟩ = some (.int .i64 N)) (hP : decide (N < (m.at_ : Int)) = false) :
    Calls Try.prog 39 #[.pointer (some ⟨q, 0, none⟩), .func (.func 40) #[] #[.pointer (some ⟨g, 0, none⟩)]] w fun e w' => e = .returned (.agg #[.int .i64 (m.base : Int), .int .i64 (m.at_ : Int), .int .i64 (m.nth : Int), .string ⟨#[]⟩]) ∧ Below w.heap.size w w' := by
  have hqB : q < w.heap.size := by obtain ⟨U, S, v, h1, h2, h3, h4⟩ := h; exact h1.below q h1.self
  have hgB : g < w.heap.size := World.block_lt_of_cell? w _ hg
  have HSD := hid h
  have HC : Hid (∀ (x : Mk) W, Below w.heap.size w W → Calls Try.prog 40 #[.agg #[.int .i64 (x.base : Int), .int .i64 (x.at_ : Int), .int .i64 (x.nth : Int)], .pointer (some ⟨g, 0, none⟩)] W fun en w' => en = .returned (.bool (decide (N < (x.at_ : Int)))) ∧ Below W.heap.size W w') := fun x W hb =>
    safe1_any x N g W ((World.cell?_of_block (hb.block g hgB)).trans hg)
  have HK0 := hid (Sk.laid w q (.func (.func 40) #[] #[.pointer (some ⟨g, 0, none⟩)]))
  clear h
  go_enter Try.func39, Try.ntmps39
  go_wp2_with fail
  generalize ((w.alloc (.cells #[.pointer (some ⟨q, 0, none⟩)] 28)).alloc (.cells #[.func (.func 40) #[] #[.pointer (some ⟨g, 0, none⟩)]] 85)).alloc (.cells #[.int .i64 0, .int .i64 0, .int .i64 0, .string ⟨#[]⟩] 83) = W0 at *
  obtain ⟨s0, s1⟩ := HK0.out.vars
  obtain ⟨k3, k4, k5⟩ := HSD.out.cs HK0.out.below
  go_region_held3 (fun w' => w'.cell? ⟨w.heap.size, 0, none⟩ = some (.pointer (some ⟨q, 0, none⟩)) ∧ w'.cell? ⟨w.heap.size + 1, 0, none⟩ = some (.func (.func 40) #[] #[.pointer (some ⟨g, 0, none⟩)]) ∧ w'.cell? ⟨q, 3, none⟩ = some (.int .i64 (m.base : Int)) ∧ w'.cell? ⟨q, 4, none⟩ = some (.int .i64 (m.at_ : Int)) ∧ w'.cell? ⟨q, 5, none⟩ = some (.int .i64 (m.nth : Int))) (go_keep)
    (first
    | (go_at_call 40; refine (HC.out m _ (by first | exact HK0.out.below | exact HK0.out.below.drew)).mono ?_; rintro e w1 ⟨rfl, hb1⟩; have HK1 : Hid (Sk w w1 q (.func (.func 40) #[] #[.pointer (some ⟨g, 0, none⟩)]) #[.int .i64 0, .int .i64 0, .int .i64 0, .string ⟨#[]⟩]) := (by first | exact HK0.out.next hb1 | exact (HK0.out.next (Below.refl _ _).drew).next hb1); obtain ⟨s10, s11⟩ := HK1.out.vars; obtain ⟨k13, k14, k15⟩ := HSD.out.cs HK1.out.below; clear hb1; rw [hP])
    | fail)
  clear s0 s1 k3 k4 k5 HK0
  all_goals
    obtain ⟨⟨o0, o1, o2, o3⟩, of⟩ := HK1.out.outs
    go_wp2_with fail
    have HZ := hid (HK1.out.put (.int .i64 (m.base : Int)) (.int .i64 (m.at_ : Int)) (.int .i64 (m.nth : Int)) (.string ⟨#[]⟩))
    generalize (((w1.setCell ⟨w.heap.size + 1 + 1, 0, none⟩ (.int .i64 (m.base : Int))).setCell ⟨w.heap.size + 1 + 1, 1, none⟩ (.int .i64 (m.at_ : Int))).setCell ⟨w.heap.size + 1 + 1, 2, none⟩ (.int .i64 (m.nth : Int))).setCell ⟨w.heap.size + 1 + 1, 3, none⟩ (.string ⟨#[]⟩) = W9 at *
    obtain ⟨⟨p0, p1, p2, p3⟩, _⟩ := HZ.out.outs
    exact bodyPost_ret (v := .agg #[.int .i64 (m.base : Int), .int .i64 (m.at_ : Int), .int .i64 (m.nth : Int), .string ⟨#[]⟩]) (by simp [results, Try.results39, go_sem, p0, p1, p2, p3]) rfl ⟨rfl, HZ.out.below⟩
theorem sk_search_40 {w W : World} {B q a base name m ix size fs c} (h : SD w B q a base name m ix size fs) (g : Nat) (hK : Sk w W q (.func (.func 40) #[] #[.pointer (some ⟨g, 0, none⟩)]) c) (N : Int) (hg : w.cell? ⟨g, 0, none⟩ = some (.int .i64 N)) (hlen : ix.length ≤ 5000) :
    Calls Try.prog 45 #[.int .i64 (ix.length : Int), .func (.func 57) #[] #[.pointer (some ⟨w.heap.size + 1, 0, none⟩), .pointer (some ⟨w.heap.size, 0, none⟩)]] W fun e w' => ∃ r : Nat, r ≤ ix.length ∧ e = .returned (.int .i64 (r : Int)) ∧ (r = 0 ∨ ∃ x, ix[r - 1]? = some x ∧ 0 < r ∧ decide (N < (x.at_ : Int)) = false) ∧ (∀ x, ix[r]? = some x → decide (N < (x.at_ : Int)) = true) ∧ Below W.heap.size W w' := by
  obtain ⟨U, S, v, h1, h2, h3, h4⟩ := h
  refine (search_57 ix.length hlen (fun t => match ix[t]? with | some x => decide (N < (x.at_ : Int)) | none => true) _ _ ?_).mono ?_
  · intro t ht W' hb'
    have hx : ix[t]? = some ix[t] := List.getElem?_eq_getElem ht
    have hK' := hK.next hb'
    have hgB : g < w.heap.size := World.block_lt_of_cell? w _ hg
    rw [hx]
    exact (seek1_40 (h1.under hK'.below) hlen t ix[t] hx _ _ g N hK'.vars.2 hK'.vars.1 ((World.cell?_of_block (hK'.below.block g hgB)).trans hg)).mono fun e w' ⟨e1, e2⟩ => ⟨e1, hb'.trans (e2.mono hb'.size)⟩
  · rintro e w' ⟨r, r1, r2, r3, r4, r5⟩
    refine ⟨r, r1, r2, ?_, fun x hx => ?_, r5⟩
    · rcases Nat.eq_zero_or_pos r with h0 | h0
      · exact .inl h0
      · have hx : ix[r - 1]? = some (ix[r - 1]'(by omega)) := List.getElem?_eq_getElem (by omega)
        refine .inr ⟨_, hx, h0, ?_⟩
        rcases r3 with r3 | r3
        · omega
        · rw [hx] at r3; exact r3
    · rcases r4 with r4 | r4
      · have := (List.getElem?_eq_some_iff.1 hx).1; omega
      · rw [hx] at r4; exact r4
set_option maxHeartbeats 6400000 in
theorem seek_yes_40 {w : World} {B q a base name m ix size fs} (h : SD w B q a base name m ix size fs) (hn : name.size ≤ maxLen) (g : Nat) (N : Int) (hg : w.cell? ⟨g, 0, none⟩ = some (.int .i64 N)) (hP : decide (N < (m.at_ : Int)) = true) (hbase : base ≤ 1000000000) (hlen : ix.length ≤ 5000) {l : List UInt8} (hl : l = abytes fs name.data.toList) (hix : ∀ x ∈ ix, x.base ≤ 1000000000 ∧ x.at_ ≤ l.length ∧ x.nth ≤ 4096) :
    Calls Try.prog 39 #[.pointer (some ⟨q, 0, none⟩), .func (.func 40) #[] #[.pointer (some ⟨g, 0, none⟩)]] w fun e w' => SeekPost (fun x => decide (N < (x.at_ : Int))) base ix l e ∧ Below w.heap.size w w' := by
  have hqB : q < w.heap.size := by obtain ⟨U, S, v, h1, h2, h3, h4⟩ := h; exact h1.below q h1.self
  have hgB : g < w.heap.size := World.block_lt_of_cell? w _ hg
  have HSD := hid h
  have HC : Hid (∀ (x : Mk) W, Below w.heap.size w W → Calls Try.prog 40 #[.agg #[.int .i64 (x.base : Int), .int .i64 (x.at_ : Int), .int .i64 (x.nth : Int)], .pointer (some ⟨g, 0, none⟩)] W fun en w' => en = .returned (.bool (decide (N < (x.at_ : Int)))) ∧ Below W.heap.size W w') := fun x W hb =>
    safe1_any x N g W ((World.cell?_of_block (hb.block g hgB)).trans hg)
  have HK0 := hid (Sk.laid w q (.func (.func 40) #[] #[.pointer (some ⟨g, 0, none⟩)]))
  clear h
  have hl16 : l.length ≤ 16777216 := by rw [hl]; exact HSD.out.small
  have HL := hid hl
  clear hl
  go_enter Try.func39, Try.ntmps39
  go_wp2_with fail
  generalize ((w.alloc (.cells #[.pointer (some ⟨q, 0, none⟩)] 28)).alloc (.cells #[.func (.func 40) #[] #[.pointer (some ⟨g, 0, none⟩)]] 85)).alloc (.cells #[.int .i64 0, .int .i64 0, .int .i64 0, .string ⟨#[]⟩] 83) = W0 at *
  obtain ⟨s0, s1⟩ := HK0.out.vars
  obtain ⟨k3, k4, k5⟩ := HSD.out.cs HK0.out.below
  go_region_held3 (fun w' => w'.cell? ⟨w.heap.size, 0, none⟩ = some (.pointer (some ⟨q, 0, none⟩)) ∧ w'.cell? ⟨w.heap.size + 1, 0, none⟩ = some (.func (.func 40) #[] #[.pointer (some ⟨g, 0, none⟩)]) ∧ w'.cell? ⟨q, 3, none⟩ = some (.int .i64 (m.base : Int)) ∧ w'.cell? ⟨q, 4, none⟩ = some (.int .i64 (m.at_ : Int)) ∧ w'.cell? ⟨q, 5, none⟩ = some (.int .i64 (m.nth : Int))) (go_keep)
    (first
    | (go_at_call 40; refine (HC.out m _ (by first | exact HK0.out.below | exact HK0.out.below.drew)).mono ?_; rintro e w1 ⟨rfl, hb1⟩; have HK1 : Hid (Sk w w1 q (.func (.func 40) #[] #[.pointer (some ⟨g, 0, none⟩)]) #[.int .i64 0, .int .i64 0, .int .i64 0, .string ⟨#[]⟩]) := (by first | exact HK0.out.next hb1 | exact (HK0.out.next (Below.refl _ _).drew).next hb1); obtain ⟨s10, s11⟩ := HK1.out.vars; obtain ⟨k13, k14, k15⟩ := HSD.out.cs HK1.out.below; clear hb1; rw [hP])
    | fail)
  clear s0 s1 k3 k4 k5 HK0
  all_goals
    obtain ⟨k20, oa, cap, k26⟩ := HSD.out.cs2 HK1.out.below
    have HK2 := hid (HK1.out.next ((Below.refl _ _).alloc (Nat.le_refl _) (.cells #[.int .i64 (base : Int), .int .i64 0, .int .i64 0] 61)))
    have HFr := hid (heap_alloc_new w1 (.cells #[.int .i64 (base : Int), .int .i64 0, .int .i64 0] 61))
    have hlt := HK1.out.lt
    obtain ⟨s20, s21⟩ := HK2.out.vars
    obtain ⟨_, oa2, cap2, k36⟩ := HSD.out.cs2 HK2.out.below
    have H45 := hid (sk_search_40 HSD.out g HK2.out N hg hlen)
    go_wp2_with fail
    refine H45.out.mono ?_
    rintro e w3 ⟨r, r1, rfl, r3, r4, hb3⟩
    have HK3 := hid (HK2.out.next hb3)
    have HF3 := hid ((hb3.block w1.heap.size (by simp)).trans HFr.out)
    clear hb3 s10 s11 k13 k14 k15 HK1 H45 HFr s20 s21 k36 k20 k26 HK2
    generalize w1.heap.size = p at *
    obtain ⟨s0, s1⟩ := HK3.out.vars
    rcases r3 with r3 | ⟨fr, x1, x2, x3⟩
    · subst r3
      obtain ⟨fr, hfr⟩ : ∃ fr : Mk, fr = ⟨base, 0, 0⟩ := ⟨_, rfl⟩
      have HF4 : Hid (w3.heap[p]? = some (.cells #[.int .i64 (fr.base : Int), .int .i64 (fr.at_ : Int), .int .i64 (fr.nth : Int)] 61)) := by rw [hfr]; exact HF3.out
      have HR : Hid (∃ r : Nat, r ≤ ix.length ∧ (r = 0 ∧ fr = ⟨base, 0, 0⟩ ∨ ix[r - 1]? = some fr ∧ 0 < r ∧ decide (N < (fr.at_ : Int)) = false) ∧ (∀ x, ix[r]? = some x → decide (N < (x.at_ : Int)) = true)) := ⟨0, r1, .inl ⟨rfl, hfr⟩, r4⟩
      have hok : fr.base ≤ 1000000000 ∧ fr.at_ ≤ l.length ∧ fr.nth ≤ 4096 := by rw [hfr]; exact ⟨hbase, Nat.zero_le _, Nat.zero_le _⟩
      clear hfr HF3
      have HK4 := HK3
      clear HK3
      have H32 : Hid (∀ W, Below w.heap.size w W → Calls Try.prog 32 #[.pointer (some ⟨q, 0, none⟩)] W fun e w' => e = .returned (.pointer (some ⟨a, 0, none⟩)) ∧ w' = W) := fun W hb => HSD.out.disk hb
      have H50 : Hid (∀ W, Below w.heap.size w W → Calls Try.prog 50 #[.pointer (some ⟨a, 0, none⟩), .string name] W fun e w' => e = .returned (.tuple #[.string (strOf l), .int .i64 (synE fs name : Int)]) ∧ Below W.heap.size W w') := fun W hb => by rw [HL.out]; exact HSD.out.read hb hn
      have kn := HSD.out.name HK4.out.below
      go_wp2_with fail
      go_region_held3 (fun w' => w'.cell? ⟨w.heap.size, 0, none⟩ = some (.pointer (some ⟨q, 0, none⟩)) ∧ w'.cell? ⟨q, 1, none⟩ = some (.string name)) (go_keep)
        (first
        | (go_at_call 32; refine (H32.out _ (by first | exact HK4.out.below | exact HK4.out.below.drew)).mono ?_; rintro e w0 ⟨rfl, rfl⟩)
        | (go_at_call 50; refine (H50.out _ (by first | exact HK4.out.below | exact HK4.out.below.drew | exact HK4.out.below.drew.drew)).mono ?_; rintro e w5 ⟨rfl, hb5⟩; have hb5' : Below w3.heap.size w3 w5 := (by first | exact hb5 | exact (Below.refl _ _).drew.trans hb5 | exact (Below.refl _ _).drew.drew.trans hb5); have HK5 := hid (HK4.out.next hb5'); have HF5 := hid ((hb5'.block p (Array.getElem?_eq_some_iff.1 HF4.out).1).trans HF4.out); have kn5 := HSD.out.name HK5.out.below; obtain ⟨z0, z1⟩ := HK5.out.vars; clear hb5 hb5')
        | fail)
      all_goals
        have q0 := cell_at HF5.out (j := 0) rfl
        have q1 := cell_at HF5.out (j := 1) rfl
        have q2 := cell_at HF5.out (j := 2) rfl
        have hx := extract_drop l fr.at_
        have hsz := strOf_size l
        have hfl : (fr.at_ : Int) ≤ (l.length : Int) := by omega
        have hmin : min (fr.at_ : Int) (l.length : Int) = (fr.at_ : Int) := by omega
        have hpl5 := (Array.getElem?_eq_some_iff.1 HF5.out).1
        have hpn : ¬ p = w5.heap.size := by omega
        have hpn' : ¬ w5.heap.size = p := by omega
        go_wp2_with fail
        go_region_held3 (fun w' => w'.cell? ⟨p, 0, none⟩ = some (.int .i64 (fr.base : Int)) ∧ w'.cell? ⟨p, 1, none⟩ = some (.int .i64 (fr.at_ : Int)) ∧ w'.cell? ⟨p, 2, none⟩ = some (.int .i64 (fr.nth : Int))) (go_keep) (fail)
        all_goals
          go_wp2_with fail
          have hb6 : Below w5.heap.size w5 (w5.alloc (.cells #[.int .i64 (fr.base : Int), .int .i64 (fr.at_ : Int), .int .i64 (fr.nth : Int), .string (strOf (l.drop fr.at_))] 83)).drew := ((Below.refl _ _).alloc (Nat.le_refl _) _).drew
          have HK6 := hid (HK5.out.next hb6)
          have HC6 : Hid ((w5.alloc (.cells #[.int .i64 (fr.base : Int), .int .i64 (fr.at_ : Int), .int .i64 (fr.nth : Int), .string (strOf (l.drop fr.at_))] 83)).drew.heap[w5.heap.size]? = some (.cells #[.int .i64 (fr.base : Int), .int .i64 (fr.at_ : Int), .int .i64 (fr.nth : Int), .string (strOf (l.drop fr.at_))] 83)) := heap_alloc_new _ _
          have hc : w.heap.size + 1 + 1 < w5.heap.size := HK5.out.lt
          clear hb6
          obtain ⟨R, hR⟩ : ∃ R, walkL (fun x => decide (N < (x.at_ : Int))) (l.length + 1) fr (l.drop fr.at_) = R := ⟨_, rfl⟩
          have HRR := hid hR
          clear hR q0 q1 q2 hx hpl5 hpn hpn' z0 z1 kn5 hmin HK5 HF5
          have hdl : (l.drop fr.at_).length = l.length - fr.at_ := by simp
          go_loopg [12] (l.drop fr.at_).length (fun kx s12 wr => ∃ (m' : Mk) (l' : List UInt8), l'.length ≤ kx ∧ Hid (Sk w wr q (.func (.func 40) #[] #[.pointer (some ⟨g, 0, none⟩)]) #[.int .i64 0, .int .i64 0, .int .i64 0, .string ⟨#[]⟩]) ∧ Hid (wr.heap[w5.heap.size]? = some (.cells #[.int .i64 (m'.base : Int), .int .i64 (m'.at_ : Int), .int .i64 (m'.nth : Int), .string (strOf l')] 83)) ∧ Hid (m'.base ≤ 1000000000 ∧ m'.nth ≤ 4096 ∧ m'.at_ + l'.length = l.length) ∧ Hid (∃ f, l'.length < f ∧ walkL (fun x => decide (N < (x.at_ : Int))) f m' l' = R))
          case atStart => exact ⟨fr, l.drop fr.at_, Nat.le_refl _, HK6, HC6, ⟨hok.1, hok.2.2, by omega⟩, l.length + 1, by omega, HRR.out⟩
          case round =>
            obtain ⟨m', l', hkx, HK, HCb, HMo, HWk⟩ := hrel
            generalize w5.heap.size = c at *
            obtain ⟨b0, b1, b2, b3⟩ := cells4 HCb.out
            have hcl := (Array.getElem?_eq_some_iff.1 HCb.out).1
            have H42 : Hid (∀ W, Calls Try.prog 42 #[.agg #[.int .i64 (m'.base : Int), .int .i64 (m'.at_ : Int), .int .i64 (m'.nth : Int), .string (strOf l')]] W fun e w' => StepPost m' l' W e w') := fun W => step_any m' ⟨HMo.out.1, by have := HMo.out.2.2; omega, HMo.out.2.1⟩ l' (by have := HMo.out.2.2; omega) W
            clear HK6 HC6
            cases hs : stepL m' l' with
            | none =>
              have HS := hid hs
              clear hs
              have HEND : Hid (R = (m', l')) := walkL_none HS.out HWk.out
              go_wp2_with fail
              refine (H42.out _).mono ?_
              rintro e w6 ⟨hb6, he, _⟩
              obtain rfl := he HS.out
              have hb7 : Below w6.heap.size w6 ((w6.alloc (.cells #[.int .i64 0, .int .i64 0, .int .i64 0, .int .i64 0, .int .i64 0, .slice none 0 0] 34)).alloc (.cells #[.int .i64 (m'.base : Int), .int .i64 (m'.at_ : Int), .int .i64 (m'.nth : Int), .string (strOf l')] 83)) := ((Below.refl _ _).alloc (Nat.le_refl _) _).alloc (by simp) _
              have HK7 := hid ((HK.out.next hb6).next hb7)
              have HC7 := hid ((hb7.block c (Nat.lt_of_lt_of_le hcl hb6.size)).trans ((hb6.block c hcl).trans HCb.out))
              clear hb6 hb7 b0 b1 b2 b3 he
              have HCc := hid (cells4 HC7.out)
              obtain ⟨c0, c1, c2, c3⟩ := HCc.out
              obtain ⟨⟨o0, o1, o2, o3⟩, of⟩ := HK7.out.outs
              have hne1 : ¬ c = w.heap.size + 1 + 1 := by omega
              have hne2 : ¬ w.heap.size + 1 + 1 = c := by omega
              go_wp2_with fail
              have HZ := hid (HK7.out.put (.int .i64 (m'.base : Int)) (.int .i64 (m'.at_ : Int)) (.int .i64 (m'.nth : Int)) (.string (strOf l')))
              generalize (((((w6.alloc (.cells #[.int .i64 0, .int .i64 0, .int .i64 0, .int .i64 0, .int .i64 0, .slice none 0 0] 34)).alloc (.cells #[.int .i64 (m'.base : Int), .int .i64 (m'.at_ : Int), .int .i64 (m'.nth : Int), .string (strOf l')] 83)).setCell ⟨w.heap.size + 1 + 1, 0, none⟩ (.int .i64 (m'.base : Int))).setCell ⟨w.heap.size + 1 + 1, 1, none⟩ (.int .i64 (m'.at_ : Int))).setCell ⟨w.heap.size + 1 + 1, 2, none⟩ (.int .i64 (m'.nth : Int))).setCell ⟨w.heap.size + 1 + 1, 3, none⟩ (.string (strOf l')) = W9 at *
              obtain ⟨⟨p0, p1, p2, p3⟩, _⟩ := HZ.out.outs
              refine bodyPost_ret (v := .agg #[.int .i64 (m'.base : Int), .int .i64 (m'.at_ : Int), .int .i64 (m'.nth : Int), .string (strOf l')]) (by simp [results, Try.results39, go_sem, p0, p1, p2, p3]) rfl ⟨?_, HZ.out.below⟩
              obtain ⟨r, r1, r2, r3⟩ := HR.out
              refine ⟨r, fr, r1, r2, r3, ?_⟩
              rw [HRR.out, HEND.out]
            | some t =>
              obtain ⟨b, m2, l2⟩ := t
              have HS := hid hs
              clear hs
              obtain ⟨hM2, hlt2⟩ := MOk.next (ix := []) (tot := l.length) ⟨HMo.out.1, HMo.out.2.1, HMo.out.2.2, Nat.zero_le _, fun x hx => by cases hx⟩ HS.out
              have HM2 : Hid (m2.base ≤ 1000000000 ∧ m2.nth ≤ 4096 ∧ m2.at_ + l2.length = l.length) := ⟨hM2.base, hM2.nth, hM2.sum⟩
              clear hM2
              cases hP2 : decide (N < (m2.at_ : Int)) with
              | true =>
                have HEND : Hid (R = (m', l')) := walkL_stop HS.out (by exact hP2) HWk.out
                go_wp2_with fail
                refine (H42.out _).mono ?_
                rintro e w6 ⟨hb6, _, he⟩
                obtain ⟨rv, rfl, hrec, _⟩ := he _ _ _ HS.out
                obtain ⟨ra, rc, rfl, _⟩ := hrec.shape
                clear hrec he
                have hb7 : Below w6.heap.size w6 ((w6.alloc (.cells #[.int .i64 b.base, .int .i64 b.epoch, .int .i64 b.pid, .int .i64 b.pidEpoch, .int .i64 b.seq, .slice ra b.recs.length rc] 34)).alloc (.cells #[.int .i64 (m2.base : Int), .int .i64 (m2.at_ : Int), .int .i64 (m2.nth : Int), .string (strOf l2)] 83)) := ((Below.refl _ _).alloc (Nat.le_refl _) _).alloc (by simp) _
                have hc6 := Nat.lt_of_lt_of_le hcl hb6.size
                have HK7 := hid ((HK.out.next hb6).next hb7)
                have HC7 := hid ((hb7.block c hc6).trans ((hb6.block c hcl).trans HCb.out))
                have HT7 : Hid (((w6.alloc (.cells #[.int .i64 b.base, .int .i64 b.epoch, .int .i64 b.pid, .int .i64 b.pidEpoch, .int .i64 b.seq, .slice ra b.recs.length rc] 34)).alloc (.cells #[.int .i64 (m2.base : Int), .int .i64 (m2.at_ : Int), .int .i64 (m2.nth : Int), .string (strOf l2)] 83)).heap[w6.heap.size + 1]? = some (.cells #[.int .i64 (m2.base : Int), .int .i64 (m2.at_ : Int), .int .i64 (m2.nth : Int), .string (strOf l2)] 83)) := by have h := heap_alloc_new (w6.alloc (.cells #[.int .i64 b.base, .int .i64 b.epoch, .int .i64 b.pid, .int .i64 b.pidEpoch, .int .i64 b.seq, .slice ra b.recs.length rc] 34)) (.cells #[.int .i64 (m2.base : Int), .int .i64 (m2.at_ : Int), .int .i64 (m2.nth : Int), .string (strOf l2)] 83); rw [show (w6.alloc (.cells #[.int .i64 b.base, .int .i64 b.epoch, .int .i64 b.pid, .int .i64 b.pidEpoch, .int .i64 b.seq, .slice ra b.recs.length rc] 34)).heap.size = w6.heap.size + 1 by simp] at h; exact h
                clear hb6 hb7 b0 b1 b2 b3
                obtain ⟨s0, s1⟩ := HK7.out.vars
                obtain ⟨t0, t1, t2, t3⟩ := cells4 HT7.out
                go_wp2_with fail
                refine (HC.out m2 _ HK7.out.below).mono ?_
                rintro e w8 ⟨rfl, hb8⟩
                rw [hP2]
                have HK8 := hid (HK7.out.next hb8)
                have HC8 := hid ((hb8.block c (by simp; omega)).trans HC7.out)
                have HT8 := hid ((hb8.block (w6.heap.size + 1) (by simp)).trans HT7.out)
                clear hb8 HK7 HC7 HT7 s0 s1 t0 t1 t2 t3
                have HCc := hid (cells4 HC8.out)
                obtain ⟨c0, c1, c2, c3⟩ := HCc.out
                obtain ⟨⟨o0, o1, o2, o3⟩, of⟩ := HK8.out.outs
                have hne1 : ¬ c = w.heap.size + 1 + 1 := by omega
                have hne2 : ¬ w.heap.size + 1 + 1 = c := by omega
                go_wp2_with fail
                have HZ := hid (HK8.out.put (.int .i64 (m'.base : Int)) (.int .i64 (m'.at_ : Int)) (.int .i64 (m'.nth : Int)) (.string (strOf l')))
                generalize (((w8.setCell ⟨w.heap.size + 1 + 1, 0, none⟩ (.int .i64 (m'.base : Int))).setCell ⟨w.heap.size + 1 + 1, 1, none⟩ (.int .i64 (m'.at_ : Int))).setCell ⟨w.heap.size + 1 + 1, 2, none⟩ (.int .i64 (m'.nth : Int))).setCell ⟨w.heap.size + 1 + 1, 3, none⟩ (.string (strOf l')) = W9 at *
                obtain ⟨⟨p0, p1, p2, p3⟩, _⟩ := HZ.out.outs
                refine bodyPost_ret (v := .agg #[.int .i64 (m'.base : Int), .int .i64 (m'.at_ : Int), .int .i64 (m'.nth : Int), .string (strOf l')]) (by simp [results, Try.results39, go_sem, p0, p1, p2, p3]) rfl ⟨?_, HZ.out.below⟩
                obtain ⟨r, r1, r2, r3⟩ := HR.out
                refine ⟨r, fr, r1, r2, r3, ?_⟩
                rw [HRR.out, HEND.out]
              | false =>
                have HNX := hid (walkL_go (P := (fun x => decide (N < (x.at_ : Int)))) HS.out (by exact hP2) hlt2 HWk.out)
                go_wp2_with fail
                refine (H42.out _).mono ?_
                rintro e w6 ⟨hb6, _, he⟩
                obtain ⟨rv, rfl, hrec, _⟩ := he _ _ _ HS.out
                obtain ⟨ra, rc, rfl, _⟩ := hrec.shape
                clear hrec he
                have hb7 : Below w6.heap.size w6 ((w6.alloc (.cells #[.int .i64 b.base, .int .i64 b.epoch, .int .i64 b.pid, .int .i64 b.pidEpoch, .int .i64 b.seq, .slice ra b.recs.length rc] 34)).alloc (.cells #[.int .i64 (m2.base : Int), .int .i64 (m2.at_ : Int), .int .i64 (m2.nth : Int), .string (strOf l2)] 83)) := ((Below.refl _ _).alloc (Nat.le_refl _) _).alloc (by simp) _
                have hc6 := Nat.lt_of_lt_of_le hcl hb6.size
                have HK7 := hid ((HK.out.next hb6).next hb7)
                have HC7 := hid ((hb7.block c hc6).trans ((hb6.block c hcl).trans HCb.out))
                have HT7 : Hid (((w6.alloc (.cells #[.int .i64 b.base, .int .i64 b.epoch, .int .i64 b.pid, .int .i64 b.pidEpoch, .int .i64 b.seq, .slice ra b.recs.length rc] 34)).alloc (.cells #[.int .i64 (m2.base : Int), .int .i64 (m2.at_ : Int), .int .i64 (m2.nth : Int), .string (strOf l2)] 83)).heap[w6.heap.size + 1]? = some (.cells #[.int .i64 (m2.base : Int), .int .i64 (m2.at_ : Int), .int .i64 (m2.nth : Int), .string (strOf l2)] 83)) := by have h := heap_alloc_new (w6.alloc (.cells #[.int .i64 b.base, .int .i64 b.epoch, .int .i64 b.pid, .int .i64 b.pidEpoch, .int .i64 b.seq, .slice ra b.recs.length rc] 34)) (.cells #[.int .i64 (m2.base : Int), .int .i64 (m2.at_ : Int), .int .i64 (m2.nth : Int), .string (strOf l2)] 83); rw [show (w6.alloc (.cells #[.int .i64 b.base, .int .i64 b.epoch, .int .i64 b.pid, .int .i64 b.pidEpoch, .int .i64 b.seq, .slice ra b.recs.length rc] 34)).heap.size = w6.heap.size + 1 by simp] at h; exact h
                clear hb6 hb7 b0 b1 b2 b3
                obtain ⟨s0, s1⟩ := HK7.out.vars
                obtain ⟨t0, t1, t2, t3⟩ := cells4 HT7.out
                go_wp2_with fail
                refine (HC.out m2 _ HK7.out.below).mono ?_
                rintro e w8 ⟨rfl, hb8⟩
                rw [hP2]
                have HK8 := hid (HK7.out.next hb8)
                have HC8 := hid ((hb8.block c (by simp; omega)).trans HC7.out)
                have HT8 := hid ((hb8.block (w6.heap.size + 1) (by simp)).trans HT7.out)
                clear hb8 HK7 HC7 HT7 s0 s1 t0 t1 t2 t3
                obtain ⟨c0, c1, c2, c3⟩ := cells4 HC8.out
                obtain ⟨t0, t1, t2, t3⟩ := cells4 HT8.out
                have f0 := frozen_blk HC8.out 0
                have f1 := frozen_blk HC8.out 1
                have f2 := frozen_blk HC8.out 2
                have f3 := frozen_blk HC8.out 3
                have hn1 : ¬ c = w6.heap.size + 1 := by omega
                have hn2 : ¬ w6.heap.size + 1 = c := by omega
                go_wp2_with fail
                go_roundg l2.length
                case measure => omega
                case rel => exact ⟨m2, l2, Nat.le_refl _, HK8.out.off4 hc _ _ _ _, set_box (set_box (set_box (set_box HC8.out))), HM2, HNX⟩

    · obtain ⟨t, rfl⟩ : ∃ t, r = t + 1 := ⟨r - 1, by omega⟩
      rw [Nat.add_sub_cancel] at x1
      have hr0 : (0 : Int) < ((t + 1 : Nat) : Int) := by omega
      have HR : Hid (∃ r : Nat, r ≤ ix.length ∧ (r = 0 ∧ fr = ⟨base, 0, 0⟩ ∨ ix[r - 1]? = some fr ∧ 0 < r ∧ decide (N < (fr.at_ : Int)) = false) ∧ (∀ x, ix[r]? = some x → decide (N < (x.at_ : Int)) = true)) := ⟨t + 1, r1, .inr ⟨by rw [Nat.add_sub_cancel]; exact x1, x2, x3⟩, r4⟩
      have hok := hix fr (List.mem_of_getElem? x1)
      obtain ⟨g2, cap3, y0, y1, y2, y3⟩ := HSD.out.row HK3.out.below t fr x1
      have f0 := frozen_blk HF3.out 0
      have f1 := frozen_blk HF3.out 1
      have f2 := frozen_blk HF3.out 2
      have p0 := cell_at HF3.out (j := 0) rfl
      have p1 := cell_at HF3.out (j := 1) rfl
      have p2 := cell_at HF3.out (j := 2) rfl
      have htl : (t : Int) < (ix.length : Int) := by omega
      go_wp2_with fail
      have HK4 := hid (HK3.out.off3 (p := p) hlt (.int .i64 (fr.base : Int)) (.int .i64 (fr.at_ : Int)) (.int .i64 (fr.nth : Int)))
      have HF4 : Hid ((((w3.setCell ⟨p, 0, none⟩ (.int .i64 (fr.base : Int))).setCell ⟨p, 1, none⟩ (.int .i64 (fr.at_ : Int))).setCell ⟨p, 2, none⟩ (.int .i64 (fr.nth : Int))).heap[p]? = some (.cells #[.int .i64 (fr.base : Int), .int .i64 (fr.at_ : Int), .int .i64 (fr.nth : Int)] 61)) := set_box (set_box (set_box HF3.out))
      clear HK3 HF3 f0 f1 f2 p0 p1 p2 y0 y1 y2 y3 s0 s1
      generalize ((w3.setCell ⟨p, 0, none⟩ (.int .i64 (fr.base : Int))).setCell ⟨p, 1, none⟩ (.int .i64 (fr.at_ : Int))).setCell ⟨p, 2, none⟩ (.int .i64 (fr.nth : Int)) = w4 at *
      obtain ⟨s0, s1⟩ := HK4.out.vars
      have H32 : Hid (∀ W, Below w.heap.size w W → Calls Try.prog 32 #[.pointer (some ⟨q, 0, none⟩)] W fun e w' => e = .returned (.pointer (some ⟨a, 0, none⟩)) ∧ w' = W) := fun W hb => HSD.out.disk hb
      have H50 : Hid (∀ W, Below w.heap.size w W → Calls Try.prog 50 #[.pointer (some ⟨a, 0, none⟩), .string name] W fun e w' => e = .returned (.tuple #[.string (strOf l), .int .i64 (synE fs name : Int)]) ∧ Below W.heap.size W w') := fun W hb => by rw [HL.out]; exact HSD.out.read hb hn
      have kn := HSD.out.name HK4.out.below
      go_wp2_with fail
      go_region_held3 (fun w' => w'.cell? ⟨w.heap.size, 0, none⟩ = some (.pointer (some ⟨q, 0, none⟩)) ∧ w'.cell? ⟨q, 1, none⟩ = some (.string name)) (go_keep)
        (first
        | (go_at_call 32; refine (H32.out _ (by first | exact HK4.out.below | exact HK4.out.below.drew)).mono ?_; rintro e w0 ⟨rfl, rfl⟩)
        | (go_at_call 50; refine (H50.out _ (by first | exact HK4.out.below | exact HK4.out.below.drew | exact HK4.out.below.drew.drew)).mono ?_; rintro e w5 ⟨rfl, hb5⟩; have hb5' : Below w4.heap.size w4 w5 := (by first | exact hb5 | exact (Below.refl _ _).drew.trans hb5 | exact (Below.refl _ _).drew.drew.trans hb5); have HK5 := hid (HK4.out.next hb5'); have HF5 := hid ((hb5'.block p (Array.getElem?_eq_some_iff.1 HF4.out).1).trans HF4.out); have kn5 := HSD.out.name HK5.out.below; obtain ⟨z0, z1⟩ := HK5.out.vars; clear hb5 hb5')
        | fail)
      all_goals
        have q0 := cell_at HF5.out (j := 0) rfl
        have q1 := cell_at HF5.out (j := 1) rfl
        have q2 := cell_at HF5.out (j := 2) rfl
        have hx := extract_drop l fr.at_
        have hsz := strOf_size l
        have hfl : (fr.at_ : Int) ≤ (l.length : Int) := by omega
        have hmin : min (fr.at_ : Int) (l.length : Int) = (fr.at_ : Int) := by omega
        have hpl5 := (Array.getElem?_eq_some_iff.1 HF5.out).1
        have hpn : ¬ p = w5.heap.size := by omega
        have hpn' : ¬ w5.heap.size = p := by omega
        go_wp2_with fail
        go_region_held3 (fun w' => w'.cell? ⟨p, 0, none⟩ = some (.int .i64 (fr.base : Int)) ∧ w'.cell? ⟨p, 1, none⟩ = some (.int .i64 (fr.at_ : Int)) ∧ w'.cell? ⟨p, 2, none⟩ = some (.int .i64 (fr.nth : Int))) (go_keep) (fail)
        all_goals
          go_wp2_with fail
          have hb6 : Below w5.heap.size w5 (w5.alloc (.cells #[.int .i64 (fr.base : Int), .int .i64 (fr.at_ : Int), .int .i64 (fr.nth : Int), .string (strOf (l.drop fr.at_))] 83)).drew := ((Below.refl _ _).alloc (Nat.le_refl _) _).drew
          have HK6 := hid (HK5.out.next hb6)
          have HC6 : Hid ((w5.alloc (.cells #[.int .i64 (fr.base : Int), .int .i64 (fr.at_ : Int), .int .i64 (fr.nth : Int), .string (strOf (l.drop fr.at_))] 83)).drew.heap[w5.heap.size]? = some (.cells #[.int .i64 (fr.base : Int), .int .i64 (fr.at_ : Int), .int .i64 (fr.nth : Int), .string (strOf (l.drop fr.at_))] 83)) := heap_alloc_new _ _
          have hc : w.heap.size + 1 + 1 < w5.heap.size := HK5.out.lt
          clear hb6
          obtain ⟨R, hR⟩ : ∃ R, walkL (fun x => decide (N < (x.at_ : Int))) (l.length + 1) fr (l.drop fr.at_) = R := ⟨_, rfl⟩
          have HRR := hid hR
          clear hR q0 q1 q2 hx hpl5 hpn hpn' z0 z1 kn5 hmin HK5 HF5
          have hdl : (l.drop fr.at_).length = l.length - fr.at_ := by simp
          go_loopg [12] (l.drop fr.at_).length (fun kx s12 wr => ∃ (m' : Mk) (l' : List UInt8), l'.length ≤ kx ∧ Hid (Sk w wr q (.func (.func 40) #[] #[.pointer (some ⟨g, 0, none⟩)]) #[.int .i64 0, .int .i64 0, .int .i64 0, .string ⟨#[]⟩]) ∧ Hid (wr.heap[w5.heap.size]? = some (.cells #[.int .i64 (m'.base : Int), .int .i64 (m'.at_ : Int), .int .i64 (m'.nth : Int), .string (strOf l')] 83)) ∧ Hid (m'.base ≤ 1000000000 ∧ m'.nth ≤ 4096 ∧ m'.at_ + l'.length = l.length) ∧ Hid (∃ f, l'.length < f ∧ walkL (fun x => decide (N < (x.at_ : Int))) f m' l' = R))
          case atStart => exact ⟨fr, l.drop fr.at_, Nat.le_refl _, HK6, HC6, ⟨hok.1, hok.2.2, by omega⟩, l.length + 1, by omega, HRR.out⟩
          case round =>
            obtain ⟨m', l', hkx, HK, HCb, HMo, HWk⟩ := hrel
            generalize w5.heap.size = c at *
            obtain ⟨b0, b1, b2, b3⟩ := cells4 HCb.out
            have hcl := (Array.getElem?_eq_some_iff.1 HCb.out).1
            have H42 : Hid (∀ W, Calls Try.prog 42 #[.agg #[.int .i64 (m'.base : Int), .int .i64 (m'.at_ : Int), .int .i64 (m'.nth : Int), .string (strOf l')]] W fun e w' => StepPost m' l' W e w') := fun W => step_any m' ⟨HMo.out.1, by have := HMo.out.2.2; omega, HMo.out.2.1⟩ l' (by have := HMo.out.2.2; omega) W
            clear HK6 HC6
            cases hs : stepL m' l' with
            | none =>
              have HS := hid hs
              clear hs
              have HEND : Hid (R = (m', l')) := walkL_none HS.out HWk.out
              go_wp2_with fail
              refine (H42.out _).mono ?_
              rintro e w6 ⟨hb6, he, _⟩
              obtain rfl := he HS.out
              have hb7 : Below w6.heap.size w6 ((w6.alloc (.cells #[.int .i64 0, .int .i64 0, .int .i64 0, .int .i64 0, .int .i64 0, .slice none 0 0] 34)).alloc (.cells #[.int .i64 (m'.base : Int), .int .i64 (m'.at_ : Int), .int .i64 (m'.nth : Int), .string (strOf l')] 83)) := ((Below.refl _ _).alloc (Nat.le_refl _) _).alloc (by simp) _
              have HK7 := hid ((HK.out.next hb6).next hb7)
              have HC7 := hid ((hb7.block c (Nat.lt_of_lt_of_le hcl hb6.size)).trans ((hb6.block c hcl).trans HCb.out))
              clear hb6 hb7 b0 b1 b2 b3 he
              have HCc := hid (cells4 HC7.out)
              obtain ⟨c0, c1, c2, c3⟩ := HCc.out
              obtain ⟨⟨o0, o1, o2, o3⟩, of⟩ := HK7.out.outs
              have hne1 : ¬ c = w.heap.size + 1 + 1 := by omega
              have hne2 : ¬ w.heap.size + 1 + 1 = c := by omega
              go_wp2_with fail
              have HZ := hid (HK7.out.put (.int .i64 (m'.base : Int)) (.int .i64 (m'.at_ : Int)) (.int .i64 (m'.nth : Int)) (.string (strOf l')))
              generalize (((((w6.alloc (.cells #[.int .i64 0, .int .i64 0, .int .i64 0, .int .i64 0, .int .i64 0, .slice none 0 0] 34)).alloc (.cells #[.int .i64 (m'.base : Int), .int .i64 (m'.at_ : Int), .int .i64 (m'.nth : Int), .string (strOf l')] 83)).setCell ⟨w.heap.size + 1 + 1, 0, none⟩ (.int .i64 (m'.base : Int))).setCell ⟨w.heap.size + 1 + 1, 1, none⟩ (.int .i64 (m'.at_ : Int))).setCell ⟨w.heap.size + 1 + 1, 2, none⟩ (.int .i64 (m'.nth : Int))).setCell ⟨w.heap.size + 1 + 1, 3, none⟩ (.string (strOf l')) = W9 at *
              obtain ⟨⟨p0, p1, p2, p3⟩, _⟩ := HZ.out.outs
              refine bodyPost_ret (v := .agg #[.int .i64 (m'.base : Int), .int .i64 (m'.at_ : Int), .int .i64 (m'.nth : Int), .string (strOf l')]) (by simp [results, Try.results39, go_sem, p0, p1, p2, p3]) rfl ⟨?_, HZ.out.below⟩
              obtain ⟨r, r1, r2, r3⟩ := HR.out
              refine ⟨r, fr, r1, r2, r3, ?_⟩
              rw [HRR.out, HEND.out]
            | some t =>
              obtain ⟨b, m2, l2⟩ := t
              have HS := hid hs
              clear hs
              obtain ⟨hM2, hlt2⟩ := MOk.next (ix := []) (tot := l.length) ⟨HMo.out.1, HMo.out.2.1, HMo.out.2.2, Nat.zero_le _, fun x hx => by cases hx⟩ HS.out
              have HM2 : Hid (m2.base ≤ 1000000000 ∧ m2.nth ≤ 4096 ∧ m2.at_ + l2.length = l.length) := ⟨hM2.base, hM2.nth, hM2.sum⟩
              clear hM2
              cases hP2 : decide (N < (m2.at_ : Int)) with
              | true =>
                have HEND : Hid (R = (m', l')) := walkL_stop HS.out (by exact hP2) HWk.out
                go_wp2_with fail
                refine (H42.out _).mono ?_
                rintro e w6 ⟨hb6, _, he⟩
                obtain ⟨rv, rfl, hrec, _⟩ := he _ _ _ HS.out
                obtain ⟨ra, rc, rfl, _⟩ := hrec.shape
                clear hrec he
                have hb7 : Below w6.heap.size w6 ((w6.alloc (.cells #[.int .i64 b.base, .int .i64 b.epoch, .int .i64 b.pid, .int .i64 b.pidEpoch, .int .i64 b.seq, .slice ra b.recs.length rc] 34)).alloc (.cells #[.int .i64 (m2.base : Int), .int .i64 (m2.at_ : Int), .int .i64 (m2.nth : Int), .string (strOf l2)] 83)) := ((Below.refl _ _).alloc (Nat.le_refl _) _).alloc (by simp) _
                have hc6 := Nat.lt_of_lt_of_le hcl hb6.size
                have HK7 := hid ((HK.out.next hb6).next hb7)
                have HC7 := hid ((hb7.block c hc6).trans ((hb6.block c hcl).trans HCb.out))
                have HT7 : Hid (((w6.alloc (.cells #[.int .i64 b.base, .int .i64 b.epoch, .int .i64 b.pid, .int .i64 b.pidEpoch, .int .i64 b.seq, .slice ra b.recs.length rc] 34)).alloc (.cells #[.int .i64 (m2.base : Int), .int .i64 (m2.at_ : Int), .int .i64 (m2.nth : Int), .string (strOf l2)] 83)).heap[w6.heap.size + 1]? = some (.cells #[.int .i64 (m2.base : Int), .int .i64 (m2.at_ : Int), .int .i64 (m2.nth : Int), .string (strOf l2)] 83)) := by have h := heap_alloc_new (w6.alloc (.cells #[.int .i64 b.base, .int .i64 b.epoch, .int .i64 b.pid, .int .i64 b.pidEpoch, .int .i64 b.seq, .slice ra b.recs.length rc] 34)) (.cells #[.int .i64 (m2.base : Int), .int .i64 (m2.at_ : Int), .int .i64 (m2.nth : Int), .string (strOf l2)] 83); rw [show (w6.alloc (.cells #[.int .i64 b.base, .int .i64 b.epoch, .int .i64 b.pid, .int .i64 b.pidEpoch, .int .i64 b.seq, .slice ra b.recs.length rc] 34)).heap.size = w6.heap.size + 1 by simp] at h; exact h
                clear hb6 hb7 b0 b1 b2 b3
                obtain ⟨s0, s1⟩ := HK7.out.vars
                obtain ⟨t0, t1, t2, t3⟩ := cells4 HT7.out
                go_wp2_with fail
                refine (HC.out m2 _ HK7.out.below).mono ?_
                rintro e w8 ⟨rfl, hb8⟩
                rw [hP2]
                have HK8 := hid (HK7.out.next hb8)
                have HC8 := hid ((hb8.block c (by simp; omega)).trans HC7.out)
                have HT8 := hid ((hb8.block (w6.heap.size + 1) (by simp)).trans HT7.out)
                clear hb8 HK7 HC7 HT7 s0 s1 t0 t1 t2 t3
                have HCc := hid (cells4 HC8.out)
                obtain ⟨c0, c1, c2, c3⟩ := HCc.out
                obtain ⟨⟨o0, o1, o2, o3⟩, of⟩ := HK8.out.outs
                have hne1 : ¬ c = w.heap.size + 1 + 1 := by omega
                have hne2 : ¬ w.heap.size + 1 + 1 = c := by omega
                go_wp2_with fail
                have HZ := hid (HK8.out.put (.int .i64 (m'.base : Int)) (.int .i64 (m'.at_ : Int)) (.int .i64 (m'.nth : Int)) (.string (strOf l')))
                generalize (((w8.setCell ⟨w.heap.size + 1 + 1, 0, none⟩ (.int .i64 (m'.base : Int))).setCell ⟨w.heap.size + 1 + 1, 1, none⟩ (.int .i64 (m'.at_ : Int))).setCell ⟨w.heap.size + 1 + 1, 2, none⟩ (.int .i64 (m'.nth : Int))).setCell ⟨w.heap.size + 1 + 1, 3, none⟩ (.string (strOf l')) = W9 at *
                obtain ⟨⟨p0, p1, p2, p3⟩, _⟩ := HZ.out.outs
                refine bodyPost_ret (v := .agg #[.int .i64 (m'.base : Int), .int .i64 (m'.at_ : Int), .int .i64 (m'.nth : Int), .string (strOf l')]) (by simp [results, Try.results39, go_sem, p0, p1, p2, p3]) rfl ⟨?_, HZ.out.below⟩
                obtain ⟨r, r1, r2, r3⟩ := HR.out
                refine ⟨r, fr, r1, r2, r3, ?_⟩
                rw [HRR.out, HEND.out]
              | false =>
                have HNX := hid (walkL_go (P := (fun x => decide (N < (x.at_ : Int)))) HS.out (by exact hP2) hlt2 HWk.out)
                go_wp2_with fail
                refine (H42.out _).mono ?_
                rintro e w6 ⟨hb6, _, he⟩
                obtain ⟨rv, rfl, hrec, _⟩ := he _ _ _ HS.out
                obtain ⟨ra, rc, rfl, _⟩ := hrec.shape
                clear hrec he
                have hb7 : Below w6.heap.size w6 ((w6.alloc (.cells #[.int .i64 b.base, .int .i64 b.epoch, .int .i64 b.pid, .int .i64 b.pidEpoch, .int .i64 b.seq, .slice ra b.recs.length rc] 34)).alloc (.cells #[.int .i64 (m2.base : Int), .int .i64 (m2.at_ : Int), .int .i64 (m2.nth : Int), .string (strOf l2)] 83)) := ((Below.refl _ _).alloc (Nat.le_refl _) _).alloc (by simp) _
                have hc6 := Nat.lt_of_lt_of_le hcl hb6.size
                have HK7 := hid ((HK.out.next hb6).next hb7)
                have HC7 := hid ((hb7.block c hc6).trans ((hb6.block c hcl).trans HCb.out))
                have HT7 : Hid (((w6.alloc (.cells #[.int .i64 b.base, .int .i64 b.epoch, .int .i64 b.pid, .int .i64 b.pidEpoch, .int .i64 b.seq, .slice ra b.recs.length rc] 34)).alloc (.cells #[.int .i64 (m2.base : Int), .int .i64 (m2.at_ : Int), .int .i64 (m2.nth : Int), .string (strOf l2)] 83)).heap[w6.heap.size + 1]? = some (.cells #[.int .i64 (m2.base : Int), .int .i64 (m2.at_ : Int), .int .i64 (m2.nth : Int), .string (strOf l2)] 83)) := by have h := heap_alloc_new (w6.alloc (.cells #[.int .i64 b.base, .int .i64 b.epoch, .int .i64 b.pid, .int .i64 b.pidEpoch, .int .i64 b.seq, .slice ra b.recs.length rc] 34)) (.cells #[.int .i64 (m2.base : Int), .int .i64 (m2.at_ : Int), .int .i64 (m2.nth : Int), .string (strOf l2)] 83); rw [show (w6.alloc (.cells #[.int .i64 b.base, .int .i64 b.epoch, .int .i64 b.pid, .int .i64 b.pidEpoch, .int .i64 b.seq, .slice ra b.recs.length rc] 34)).heap.size = w6.heap.size + 1 by simp] at h; exact h
                clear hb6 hb7 b0 b1 b2 b3
                obtain ⟨s0, s1⟩ := HK7.out.vars
                obtain ⟨t0, t1, t2, t3⟩ := cells4 HT7.out
                go_wp2_with fail
                refine (HC.out m2 _ HK7.out.below).mono ?_
                rintro e w8 ⟨rfl, hb8⟩
                rw [hP2]
                have HK8 := hid (HK7.out.next hb8)
                have HC8 := hid ((hb8.block c (by simp; omega)).trans HC7.out)
                have HT8 := hid ((hb8.block (w6.heap.size + 1) (by simp)).trans HT7.out)
                clear hb8 HK7 HC7 HT7 s0 s1 t0 t1 t2 t3
                obtain ⟨c0, c1, c2, c3⟩ := cells4 HC8.out
                obtain ⟨t0, t1, t2, t3⟩ := cells4 HT8.out
                have f0 := frozen_blk HC8.out 0
                have f1 := frozen_blk HC8.out 1
                have f2 := frozen_blk HC8.out 2
                have f3 := frozen_blk HC8.out 3
                have hn1 : ¬ c = w6.heap.size + 1 := by omega
                have hn2 : ¬ w6.heap.size + 1 = c := by omega
                go_wp2_with fail
                go_roundg l2.length
                case measure => omega
                case rel => exact ⟨m2, l2, Nat.le_refl _, HK8.out.off4 hc _ _ _ _, set_box (set_box (set_box (set_box HC8.out))), HM2, HNX⟩


end Go.Proofs.Ytlgaianlkbaedaa

