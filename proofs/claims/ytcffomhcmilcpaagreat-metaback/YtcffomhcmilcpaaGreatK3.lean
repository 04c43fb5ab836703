/- A change. -/
import Derived.Test.YtcffomhcmilcpaaGreatK2
namespace Go.Proofs.YtcffomhcmilcpaaGreat
open Go.RowKit Go.Maps
set_option linter.unusedSimpArgs false
set_option linter.unusedVariables false
set_option maxRecDepth 100000

/-- What a decision leaves: a state and a number. -/
def Res (X : Nat → Prop) (w : World) (r : Pt × Int) (e : Ending) (w' : World) : Prop := ∃ v, e = .returned (.tuple #[v, .int .i64 r.2]) ∧ PartM w' v r.1 ∧ InP X v r.1 ∧ Below w.heap.size w w'
theorem i64z : I64 0 := by unfold I64; omega
theorem partZ (w : World) : PartM w (.agg #[.int .i64 0, .int .i64 0, .int .i64 0, .int .i64 0, .slice none 0 0, .slice none 0 0, .slice none 0 0, .slice none 0 0, .int .i64 0]) Pt.zero := ⟨_, _, _, _, rfl, IL.nil _, IL.nil _, IL.nil _, IL.nil _, i64z, i64z, i64z, i64z, i64z⟩
theorem inZ (X : Nat → Prop) : InP X (.agg #[.int .i64 0, .int .i64 0, .int .i64 0, .int .i64 0, .slice none 0 0, .slice none 0 0, .slice none 0 0, .slice none 0 0, .int .i64 0]) Pt.zero := inP_of (In.nil _ _) (In.nil _ _) (In.nil _ _) (In.nil _ _)
theorem res_err {X : Nat → Prop} {w w' : World} (n : Int) (hb : Below w.heap.size w w') : Res X w (Pt.zero, n) (.returned (.tuple #[.agg #[.int .i64 0, .int .i64 0, .int .i64 0, .int .i64 0, .slice none 0 0, .slice none 0 0, .slice none 0 0, .slice none 0 0, .int .i64 0], .int .i64 n])) w' := ⟨_, rfl, partZ _, inZ _, hb⟩

set_option maxHeartbeats 3200000 in
theorem changed_any {w : World} {v : Value} {p : Pt} {X : Nat → Prop} (h : PartM w v p) (hX : InP X v p) (l : Int) (hl : I64 l) (he : 1 ≤ p.epoch ∧ p.epoch ≤ 1000000000) (hv : 1 ≤ p.ver ∧ p.ver ≤ 1000000000) : Calls Tryz.prog 159 #[v, .int .i64 l] w fun e w' => Res X w (changedP p l) e w' := by
  obtain ⟨id, ld, ep, vr, isr, reps, add, rem, mn⟩ := p
  obtain ⟨a1, c1, a2, c2, a3, c3, a4, c4, rfl, q1, q2, q3, q4, i0, i1, i2, i3, i4⟩ := h.open
  simp only at q1 q2 q3 q4 i0 i1 i2 i3 i4 ⊢
  have Q1 := hid q1
  have Q2 := hid q2
  have Q3 := hid q3
  have Q4 := hid q4
  clear h q1 q2 q3 q4
  have HXX := hid (hX _ _ _ _ _ _ _ _ _ rfl)
  clear hX
  simp only at he hv
  obtain ⟨he1, he2⟩ := he
  obtain ⟨hv1, hv2⟩ := hv
  have HC : Hid (changedP ⟨id, ld, ep, vr, isr, reps, add, rem, mn⟩ l = if overB (nextP ⟨id, ld, ep, vr, isr, reps, add, rem, mn⟩ l) then (Pt.zero, 20) else (nextP ⟨id, ld, ep, vr, isr, reps, add, rem, mn⟩ l, 0)) := rfl
  have HB2 : Hid (∀ O1 O2, Below w.heap.size w ((w.alloc O1).alloc O2)) := fun O1 O2 => ((Below.refl _ _).alloc (Nat.le_refl _) _).alloc (by simp) _
  by_cases h1 : l = ld
  · subst h1
    have HNx : Hid (nextP ⟨id, l, ep, vr, isr, reps, add, rem, mn⟩ l = ⟨id, l, ep, vr + 1, isr, reps, add, rem, mn⟩) := by show _ = _; simp [nextP]
    rw [HNx.out] at HC
    by_cases h2 : 1000000000 < vr + 1
    · have HO : Hid (changedP ⟨id, l, ep, vr, isr, reps, add, rem, mn⟩ l = (Pt.zero, 20)) := by show _ = _; rw [HC.out, if_pos (by simp [overB]; omega)]
      rw [HO.out]
      clear HC HO HNx i0 i1 i2 i3 i4
      have h3 : ¬ 1000000000 < ep := by omega
      go_enter Tryz.func159, Tryz.ntmps159
      go_wp2_with fail
      exact bodyPost_ret (v := .tuple #[.agg #[.int .i64 0, .int .i64 0, .int .i64 0, .int .i64 0, .slice none 0 0, .slice none 0 0, .slice none 0 0, .slice none 0 0, .int .i64 0], .int .i64 20]) (by simp [results, Tryz.results159, go_sem]) rfl (res_err 20 (HB2.out _ _))
    · have HO : Hid (changedP ⟨id, l, ep, vr, isr, reps, add, rem, mn⟩ l = (⟨id, l, ep, vr + 1, isr, reps, add, rem, mn⟩, 0)) := by show _ = _; rw [HC.out, if_neg (by simp [overB]; omega)]
      rw [HO.out]
      have HI : Hid (I64 id ∧ I64 l ∧ I64 ep ∧ I64 (vr + 1) ∧ I64 mn) := ⟨i0, i1, i2, by unfold I64; omega, i4⟩
      clear HC HO HNx i0 i1 i2 i3 i4
      have h3 : ¬ 1000000000 < ep := by omega
      go_enter Tryz.func159, Tryz.ntmps159
      go_wp2_with fail
      exact bodyPost_ret (v := .tuple #[.agg #[.int .i64 id, .int .i64 l, .int .i64 ep, .int .i64 (vr + 1), .slice a1 isr.length c1, .slice a2 reps.length c2, .slice a3 add.length c3, .slice a4 rem.length c4, .int .i64 mn], .int .i64 0]) (by simp [results, Tryz.results159, go_sem]) rfl ⟨_, rfl, ⟨_, _, _, _, rfl, Q1.out.under (HB2.out _ _), Q2.out.under (HB2.out _ _), Q3.out.under (HB2.out _ _), Q4.out.under (HB2.out _ _), HI.out⟩, inP_of HXX.out.1 HXX.out.2.1 HXX.out.2.2.1 HXX.out.2.2.2, HB2.out _ _⟩
  · have HNx : Hid (nextP ⟨id, ld, ep, vr, isr, reps, add, rem, mn⟩ l = ⟨id, l, ep + 1, vr + 1, isr, reps, add, rem, mn⟩) := by show _ = _; simp [nextP, h1]
    rw [HNx.out] at HC
    by_cases h3 : 1000000000 < ep + 1
    · have HO : Hid (changedP ⟨id, ld, ep, vr, isr, reps, add, rem, mn⟩ l = (Pt.zero, 20)) := by show _ = _; rw [HC.out, if_pos (by simp [overB]; omega)]
      rw [HO.out]
      clear HC HO HNx i0 i1 i2 i3 i4
      go_enter Tryz.func159, Tryz.ntmps159
      go_wp2_with fail
      exact bodyPost_ret (v := .tuple #[.agg #[.int .i64 0, .int .i64 0, .int .i64 0, .int .i64 0, .slice none 0 0, .slice none 0 0, .slice none 0 0, .slice none 0 0, .int .i64 0], .int .i64 20]) (by simp [results, Tryz.results159, go_sem]) rfl (res_err 20 (HB2.out _ _))
    · by_cases h2 : 1000000000 < vr + 1
      · have HO : Hid (changedP ⟨id, ld, ep, vr, isr, reps, add, rem, mn⟩ l = (Pt.zero, 20)) := by show _ = _; rw [HC.out, if_pos (by simp [overB]; omega)]
        rw [HO.out]
        clear HC HO HNx i0 i1 i2 i3 i4
        go_enter Tryz.func159, Tryz.ntmps159
        go_wp2_with fail
        exact bodyPost_ret (v := .tuple #[.agg #[.int .i64 0, .int .i64 0, .int .i64 0, .int .i64 0, .slice none 0 0, .slice none 0 0, .slice none 0 0, .slice none 0 0, .int .i64 0], .int .i64 20]) (by simp [results, Tryz.results159, go_sem]) rfl (res_err 20 (HB2.out _ _))
      · have HO : Hid (changedP ⟨id, ld, ep, vr, isr, reps, add, rem, mn⟩ l = (⟨id, l, ep + 1, vr + 1, isr, reps, add, rem, mn⟩, 0)) := by show _ = _; rw [HC.out, if_neg (by simp [overB]; omega)]
        rw [HO.out]
        have HI : Hid (I64 id ∧ I64 l ∧ I64 (ep + 1) ∧ I64 (vr + 1) ∧ I64 mn) := ⟨i0, hl, by unfold I64; omega, by unfold I64; omega, i4⟩
        clear HC HO HNx i0 i1 i2 i3 i4
        go_enter Tryz.func159, Tryz.ntmps159
        go_wp2_with fail
        exact bodyPost_ret (v := .tuple #[.agg #[.int .i64 id, .int .i64 l, .int .i64 (ep + 1), .int .i64 (vr + 1), .slice a1 isr.length c1, .slice a2 reps.length c2, .slice a3 add.length c3, .slice a4 rem.length c4, .int .i64 mn], .int .i64 0]) (by simp [results, Tryz.results159, go_sem]) rfl ⟨_, rfl, ⟨_, _, _, _, rfl, Q1.out.under (HB2.out _ _), Q2.out.under (HB2.out _ _), Q3.out.under (HB2.out _ _), Q4.out.under (HB2.out _ _), HI.out⟩, inP_of HXX.out.1 HXX.out.2.1 HXX.out.2.2.1 HXX.out.2.2.2, HB2.out _ _⟩
end Go.Proofs.YtcffomhcmilcpaaGreat

/- Two boxes: a state that came in, and the one that goes out. -/
namespace Go.Proofs.YtcffomhcmilcpaaGreat
open Go.RowKit Go.Maps
set_option linter.unusedSimpArgs false
set_option linter.unusedVariables false
set_option maxRecDepth 100000

structure TwoB (w W : World) (cs zs : Array Value) : Prop where
  x : W.heap[w.heap.size]? = some (.cells cs 54)
  z : W.heap[w.heap.size + 1]? = some (.cells zs 54)
  b : Below w.heap.size w W
  s : w.heap.size + 2 ≤ W.heap.size
theorem two_new (w : World) (cs zs : Array Value) : TwoB w ((w.alloc (.cells cs 54)).alloc (.cells zs 54)) cs zs := by
  refine ⟨?_, ?_, ((Below.refl _ _).alloc (Nat.le_refl _) _).alloc (by simp) _, by simp⟩
  · rw [Below.heap_alloc _ _ _ (by simp)]; exact heap_alloc_new _ _
  · have := heap_alloc_new (w.alloc (.cells cs 54)) (.cells zs 54)
    rw [show (w.alloc (.cells cs 54)).heap.size = w.heap.size + 1 by simp] at this
    exact this
theorem TwoB.next {w W W' : World} {cs zs : Array Value} (h : TwoB w W cs zs) (hb : Below W.heap.size W W') : TwoB w W' cs zs := by
  have := h.s
  exact ⟨(hb.block _ (by omega)).trans h.x, (hb.block _ (by omega)).trans h.z, h.b.trans (hb.mono h.b.size), Nat.le_trans this hb.size⟩
theorem TwoB.drew {w W : World} {cs zs : Array Value} (h : TwoB w W cs zs) : TwoB w W.drew cs zs := h.next (Below.refl _ _).drew
theorem TwoB.alloc {w W : World} {cs zs : Array Value} (h : TwoB w W cs zs) (O : Obj) : TwoB w (W.alloc O) cs zs := h.next ((Below.refl _ _).alloc (Nat.le_refl _) _)
theorem TwoB.setx {w W : World} {cs zs : Array Value} (h : TwoB w W cs zs) (j : Nat) (u : Value) : TwoB w (W.setCell ⟨w.heap.size, j, none⟩ u) (cs.setIfInBounds j u) zs :=
  ⟨set_box h.x, (Below.heap_setCell _ _ _ _ (by simp)).trans h.z, h.b.setCell (Nat.le_refl _) _, by have := h.s; simpa using this⟩
theorem TwoB.setz {w W : World} {cs zs : Array Value} (h : TwoB w W cs zs) (j : Nat) (u : Value) : TwoB w (W.setCell ⟨w.heap.size + 1, j, none⟩ u) cs (zs.setIfInBounds j u) :=
  ⟨(Below.heap_setCell _ _ _ _ (by simp)).trans h.x, set_box h.z, h.b.setCell (by simp) _, by have := h.s; simpa using this⟩
/-- A list, apart from both boxes. -/
def IA (w W : World) (v : Value) (l : List Int) : Prop := IL W v l ∧ In (fun b => b < w.heap.size ∨ w.heap.size + 2 ≤ b) v l
theorem IA.under {w W W' : World} {v : Value} {l : List Int} (h : IA w W v l) (hb : Below W.heap.size W W') : IA w W' v l := ⟨h.1.under hb, h.2⟩
theorem IA.set {w W : World} {v : Value} {l : List Int} (h : IA w W v l) {q : Nat} (hq : q = w.heap.size ∨ q = w.heap.size + 1) (j : Nat) (u : Value) : IA w (W.setCell ⟨q, j, none⟩ u) v l :=
  ⟨h.1.off (q := q) (h.2.mono fun b hb => by omega) (fun b hb => Below.heap_setCell _ _ _ _ hb) (by simp), h.2⟩
theorem ia_new {w W W' : World} {v : Value} {l : List Int} (h : IL W' v l) (hn : In (fun b => W.heap.size ≤ b) v l) (hs : w.heap.size + 2 ≤ W.heap.size) : IA w W' v l := ⟨h, hn.mono fun b hb => .inr (by omega)⟩
theorem ia_old {w W : World} {v : Value} {l : List Int} (h : IL w v l) (hb : Below w.heap.size w W) : IA w W v l := ⟨h.under hb, h.old.mono fun b hb => .inl hb⟩
theorem IA.offz {w W W' : World} {v : Value} {l : List Int} (h : IA w W v l) (hb : ∀ b, b ≠ w.heap.size + 1 → W'.heap[b]? = W.heap[b]?) (hs : W.heap.size ≤ W'.heap.size) : IL W' v l := h.1.off (q := w.heap.size + 1) (h.2.mono fun b hb => by omega) hb hs
/-- A state is stored into the box that goes out. -/
theorem nine_z {w W : World} {cs zs : Array Value} (h : TwoB w W cs zs) (hz : zs.size = 9) (v0 v1 v2 v3 v4 v5 v6 v7 v8 : Value) :
    TwoB w (((((((((W.setCell ⟨w.heap.size + 1, 0, none⟩ v0).setCell ⟨w.heap.size + 1, 1, none⟩ v1).setCell ⟨w.heap.size + 1, 2, none⟩ v2).setCell ⟨w.heap.size + 1, 3, none⟩ v3).setCell ⟨w.heap.size + 1, 4, none⟩ v4).setCell ⟨w.heap.size + 1, 5, none⟩ v5).setCell ⟨w.heap.size + 1, 6, none⟩ v6).setCell ⟨w.heap.size + 1, 7, none⟩ v7).setCell ⟨w.heap.size + 1, 8, none⟩ v8) cs #[v0, v1, v2, v3, v4, v5, v6, v7, v8] := by
  obtain ⟨l⟩ := zs
  match l, hz, h with
  | [z0, z1, z2, z3, z4, z5, z6, z7, z8], _, h =>
    have h0 : TwoB w _ cs #[v0, z1, z2, z3, z4, z5, z6, z7, z8] := h.setz 0 v0
    have h1 : TwoB w _ cs #[v0, v1, z2, z3, z4, z5, z6, z7, z8] := h0.setz 1 v1
    have h2 : TwoB w _ cs #[v0, v1, v2, z3, z4, z5, z6, z7, z8] := h1.setz 2 v2
    have h3 : TwoB w _ cs #[v0, v1, v2, v3, z4, z5, z6, z7, z8] := h2.setz 3 v3
    have h4 : TwoB w _ cs #[v0, v1, v2, v3, v4, z5, z6, z7, z8] := h3.setz 4 v4
    have h5 : TwoB w _ cs #[v0, v1, v2, v3, v4, v5, z6, z7, z8] := h4.setz 5 v5
    have h6 : TwoB w _ cs #[v0, v1, v2, v3, v4, v5, v6, z7, z8] := h5.setz 6 v6
    have h7 : TwoB w _ cs #[v0, v1, v2, v3, v4, v5, v6, v7, z8] := h6.setz 7 v7
    have h8 : TwoB w _ cs #[v0, v1, v2, v3, v4, v5, v6, v7, v8] := h7.setz 8 v8
    exact h8
theorem nine_off (W : World) (q : Nat) (v0 v1 v2 v3 v4 v5 v6 v7 v8 : Value) :
    (∀ b, b ≠ q → (((((((((W.setCell ⟨q, 0, none⟩ v0).setCell ⟨q, 1, none⟩ v1).setCell ⟨q, 2, none⟩ v2).setCell ⟨q, 3, none⟩ v3).setCell ⟨q, 4, none⟩ v4).setCell ⟨q, 5, none⟩ v5).setCell ⟨q, 6, none⟩ v6).setCell ⟨q, 7, none⟩ v7).setCell ⟨q, 8, none⟩ v8).heap[b]? = W.heap[b]?) ∧
    W.heap.size ≤ (((((((((W.setCell ⟨q, 0, none⟩ v0).setCell ⟨q, 1, none⟩ v1).setCell ⟨q, 2, none⟩ v2).setCell ⟨q, 3, none⟩ v3).setCell ⟨q, 4, none⟩ v4).setCell ⟨q, 5, none⟩ v5).setCell ⟨q, 6, none⟩ v6).setCell ⟨q, 7, none⟩ v7).setCell ⟨q, 8, none⟩ v8).heap.size := by
  have hz : ∀ (W : World) (a : Addr) (u : Value), (W.setCell a u).heap.size = W.heap.size := fun W a u => by simp
  refine ⟨fun b hb => ?_, ?_⟩
  · exact (Below.heap_setCell _ _ _ _ hb).trans ((Below.heap_setCell _ _ _ _ hb).trans ((Below.heap_setCell _ _ _ _ hb).trans ((Below.heap_setCell _ _ _ _ hb).trans ((Below.heap_setCell _ _ _ _ hb).trans ((Below.heap_setCell _ _ _ _ hb).trans ((Below.heap_setCell _ _ _ _ hb).trans ((Below.heap_setCell _ _ _ _ hb).trans (Below.heap_setCell _ _ _ _ hb))))))))
  · rw [hz, hz, hz, hz, hz, hz, hz, hz, hz]; exact Nat.le_refl _
end Go.Proofs.YtcffomhcmilcpaaGreat

