/- Cancel and Due of the document's timers. -/
import Derived.Test.YtohbnkghenlnoaaRef
namespace Go.Proofs.Ytohbnkghenlnoaa
open Go.RowKit Go.Maps
set_option maxRecDepth 100000
set_option linter.unusedSimpArgs false
set_option linter.unusedVariables false

theorem len_del' {s : List Tm} {k : Int} (hk : Keys s) (h : hasL s k = true) : (del s k).length + 1 = s.length := by
  obtain ⟨x, hx, rfl⟩ := hasL_iff.1 h
  obtain ⟨i, hi, rfl⟩ := List.getElem_of_mem hx
  have e : g s i = s[i] := g_eq (List.getElem?_eq_getElem hi)
  have := (self_perm s i hk hi).length_eq
  rw [e] at this
  simpa using this.symm
theorem one_cell {w1 : World} {v : Value} {t : TypeId} {b : Nat} (hb : b = w1.heap.size) : ∀ (j : Nat) (u : Value), [v][j]? = some u → (w1.alloc (.cells #[v] t)).cell? ((⟨b, 0, none⟩ : Addr).add j) = some u := fun j u hu => by
  have hadd : (⟨b, 0, none⟩ : Addr).add j = ⟨b, j, none⟩ := by unfold Addr.add; split <;> simp_all
  rw [hadd]
  exact cell_new hb (by simpa using hu)

theorem sub_o2 {n k c : Nat} (h : n - k ≤ c) : n - (k + 1) ≤ c - 1 := by omega
theorem sub_o3 {n k i : Nat} (h : i < n - (k + 1)) : i + 1 < n - k := by omega
theorem sub_o4 {n k c : Nat} (h : n - k ≤ c) (e : c - 1 = 0) : ¬ 0 < n - (k + 1) := by omega

theorem row_shape {w : World} {B n : Nat} {e : TypeId} {size : Nat} {v : Value} {xs : List Value} (h : w.ownsRow B e size v n xs) : ∃ oa cap, v = .slice oa n cap := by
  rcases h.2 with ⟨e0, h0⟩ | ⟨b', cap', cur, e0, _⟩
  · exact ⟨none, 0, by rw [e0, h0]⟩
  · exact ⟨_, _, e0⟩

theorem without_at {w : World} {T : Nat → Prop} {r : Nat} {v : Value} {s : List Tm} (h : RT w T r v s) (k : Int) :
    Calls Try.prog 23 #[.pointer (some ⟨r, 0, none⟩), .int .i64 k] w fun e w' => ∃ oa cap, e = .returned (.slice oa (del s k).length cap) ∧ Hid (Below w.heap.size w w' ∧ w'.ownsRow w.heap.size 44 2 (.slice oa (del s k).length cap) (del s k).length (flat (del s k))) ∧ w'.cell? ⟨r, 0, none⟩ = some v ∧ w'.frozen? ⟨r, 0, none⟩ = false := by
  refine (without_any h k).mono ?_
  rintro e w' ⟨v', rfl, hb, hr⟩
  obtain ⟨oa, cap, rfl⟩ := row_shape hr
  exact ⟨oa, cap, rfl, ⟨hb, hr⟩, (hb.cell (h.below r h.self)).trans h.c0, (hb.frozen (h.below r h.self)).trans h.f0⟩

set_option maxHeartbeats 800000 in
theorem rcancel_any {w : World} {T : Nat → Prop} {r : Nat} {v : Value} {s : List Tm} (h : RT w T r v s) (hk : Keys s) (k : Int) :
    Calls Try.prog 12 #[.pointer (some ⟨r, 0, none⟩), .int .i64 k] w fun e w' => e = .returned (.int .i64 (cancE s k)) ∧ RAfter T w w' r (del s k) := by
  have HW := hid (without_at h k)
  have hfew := h.few
  obtain ⟨ol, capl, rfl, _⟩ := h.row
  cases hh : hasL s k with
  | true =>
    have hl := len_del' hk hh
    have HE : Hid (cancE s k = 0) := by show _ = _; rw [cancE, hh]; rfl
    have hne : ¬ ((del s k).length : Int) = (s.length : Int) := by omega
    have HS : Hid (∀ w' oa cap, Below w.heap.size w w' → w'.ownsRow w.heap.size 44 2 (.slice oa (del s k).length cap) (del s k).length (flat (del s k)) → RAfter T w (w'.setCell ⟨r, 0, none⟩ (.slice oa (del s k).length cap)) r (del s k)) := fun w' oa cap hb hr =>
      h.stored hb hr rfl (by omega)
    clear h hk hh
    go_enter Try.func12, Try.ntmps12
    go_wp2_with (go_at_call 23; refine HW.out.mono ?_; rintro e w' ⟨oa, cap, rfl, HB, c0, f0⟩)
    go_ret
    exact ⟨ret_int HE.out.symm, HS.out _ _ _ HB.out.1 HB.out.2⟩
  | false =>
    have hd : del s k = s := del_none (hasL_false.1 hh)
    have HE : Hid (cancE s k = 8) := by show _ = _; rw [cancE, hh]; rfl
    have HS : Hid (∀ w', Below w.heap.size w w' → RAfter T w w' r (del s k)) := fun w' hb => by rw [hd]; exact h.same hb
    have heq : ((del s k).length : Int) = (s.length : Int) := by rw [hd]
    clear h hk hh hd
    go_enter Try.func12, Try.ntmps12
    go_wp2_with (go_at_call 23; refine HW.out.mono ?_; rintro e w' ⟨oa, cap, rfl, HB, c0, f0⟩)
    go_ret
    exact ⟨ret_int HE.out.symm, HS.out _ HB.out.1⟩

/-- Where the document's Due stands behind k timers. -/
structure RDueAt (w : World) (T : Nat → Prop) (r : Nat) (s : List Tm) (now : Int) (k : Nat) (v : Value) (wr : World) : Prop where
  row : wr.ownsRow w.heap.size 3 1 v k (keyCells (s.take k))
  rt : ∃ u, RT wr T r u (s.drop k)
  keeps : Keeps T w wr
  due : ∀ x ∈ s.take k, x.tick ≤ now

theorem RDueAt.next {w : World} {T : Nat → Prop} {r : Nat} {s : List Tm} {now : Int} {k : Nat} {v : Value} {wr : World} (h : RDueAt w T r s now k v wr) (hT : ∀ k, T k → k < w.heap.size) {x : Tm} (hx : s[k]? = some x) (hd : x.tick ≤ now) :
    ∃ b off cap u', wr.cell? ⟨r, 0, none⟩ = some (.slice (some ⟨b, off, none⟩) (s.length - k) cap) ∧ wr.cell? ⟨b, off, none⟩ = some (.int .i64 x.key) ∧ wr.cell? ⟨b, off + 1, none⟩ = some (.int .i64 x.tick) ∧ s.length - k ≤ cap ∧
      u' = (if cap - 1 = 0 then Value.slice (some ⟨b, off, none⟩) (s.length - (k + 1)) (cap - 1) else .slice (some ⟨b, off + 2, none⟩) (s.length - (k + 1)) (cap - 1)) ∧
      (∀ o, (wr.alloc o).ownsRow w.heap.size 3 1 v k (keyCells (s.take k))) ∧ w.heap.size ≤ wr.heap.size ∧
      ∀ o v' w2, w2.ownsRow w.heap.size 3 1 v' (k + 1) (keyCells (s.take k) ++ [.int .i64 x.key]) → (wr.alloc o).grownBy w2 v.ownBlock →
        w2.cell? ⟨r, 0, none⟩ = some (.slice (some ⟨b, off, none⟩) (s.length - k) cap) ∧ w2.frozen? ⟨r, 0, none⟩ = false ∧ RDueAt w T r s now (k + 1) v' (w2.setCell ⟨r, 0, none⟩ u') := by
  obtain ⟨u, hu⟩ := h.rt
  have hk := (List.getElem?_eq_some_iff.1 hx).1
  obtain ⟨oa, cap, rfl, h1, h2, h3⟩ := hu.row
  have hdl : (s.drop k).length = s.length - k := by simp
  obtain ⟨b, off, rfl, hTb, hbl, hc⟩ := h3 (by omega)
  have hgd : ∀ i, g (s.drop k) i = g s (k + i) := fun i => by simp [g, List.getD_eq_getElem?_getD]
  have hgx : g s k = x := g_eq hx
  have hc0 := hc 0 (by omega)
  rw [hgd, show g s (k + 0) = x from hgx] at hc0
  rw [hdl] at h1
  have o1 : cap - 1 ≤ maxLen := Nat.le_trans (Nat.sub_le _ _) h2
  have o2 : s.length - (k + 1) ≤ cap - 1 := sub_o2 h1
  have o3 : ∀ i, i < s.length - (k + 1) → i + 1 < (s.drop k).length := fun i hi => by rw [hdl]; exact sub_o3 hi
  have o4 : cap - 1 = 0 → ¬ 0 < s.length - (k + 1) := fun e => sub_o4 h1 e
  refine ⟨b, off, cap, _, by rw [hu.c0, hdl], by simpa using hc0.1, by simpa using hc0.2, h1, rfl, fun o => row_alloc h.row o, h.keeps.size, fun o v' w2 hown hg => ?_⟩
  have hrl := hT r hu.self
  have hvb : ∀ q, v.ownBlock = some q → w.heap.size ≤ q := fun q hq => by
    rcases h.row.2 with ⟨e0, _⟩ | ⟨b', cap', cur, e0, hb0, _⟩
    · rw [e0] at hq; cases hq
    · rw [e0] at hq
      have : b' = q := by simpa [Value.ownBlock] using hq
      omega
  have hsz2 : wr.heap.size ≤ w2.heap.size := Nat.le_trans (by simp) hg.size
  have hb2 : ∀ q, q < w.heap.size → w2.heap[q]? = wr.heap[q]? := fun q hq => (hg.block q (by have := h.keeps.size; simp; omega) (fun e => by have := hvb q e.symm; omega)).trans (Below.heap_alloc _ _ q (by have := h.keeps.size; omega))
  have hc2 : w2.heap[r]? = some (.cells #[.slice (some ⟨b, off, none⟩) (s.drop k).length cap] 29 (0, 0)) := (hb2 r hrl).trans hu.cells
  generalize hu' : (if cap - 1 = 0 then Value.slice (some ⟨b, off, none⟩) (s.length - (k + 1)) (cap - 1) else .slice (some ⟨b, off + 2, none⟩) (s.length - (k + 1)) (cap - 1)) = u'
  have hsz3 : (w2.setCell ⟨r, 0, none⟩ u').heap.size = w2.heap.size := by simp [World.setCell]
  have hb3 : ∀ q, q ≠ r → (w2.setCell ⟨r, 0, none⟩ u').heap[q]? = w2.heap[q]? := fun q hq => Below.heap_setCell _ _ _ q hq
  have hbr : b ≠ r := fun e => by
    subst e
    have := hc0.2
    unfold World.cell? at this
    rw [hu.cells] at this
    simp at this
  refine ⟨by rw [← hdl]; simp [World.cell?, hc2], by simp [World.frozen?, hc2], ?_, ⟨u', ?_⟩, ?_, fun y hy => ?_⟩
  · have hr2 : w2.ownsRow w.heap.size 3 1 v' (k + 1) (keyCells (s.take (k + 1))) := by
      rw [List.take_add_one, hx]
      simp only [Option.toList_some, keyCells, List.map_append]
      exact hown
    refine ⟨hr2.1, ?_⟩
    rcases hr2.2 with h0 | ⟨b', cap', cur, e0, hb0, hg0, rest⟩
    · exact .inl h0
    · exact .inr ⟨b', cap', cur, e0, hb0, (hb3 b' (by omega)).trans hg0, rest⟩
  · refine ⟨fun q hq => ?_, hu.self, ?_, ?_, ?_⟩
    · rw [hsz3]; have := hT q hq; have := h.keeps.size; omega
    · simp [World.setCell, Array.getElem?_modify, hc2]
    · have hdl1 : (s.drop (k + 1)).length = s.length - (k + 1) := by simp
      by_cases hcap : cap - 1 = 0
      · rw [if_pos hcap] at hu'
        exact ⟨_, _, by rw [← hu', hdl1], by rw [hdl1]; exact o2, o1, fun h0 => by rw [hdl1] at h0; exact absurd h0 (o4 hcap)⟩
      · rw [if_neg hcap] at hu'
        refine ⟨_, _, by rw [← hu', hdl1], by rw [hdl1]; exact o2, o1, fun h0 => ⟨b, off + 2, rfl, hTb, by rw [hsz3]; omega, fun i hi => ?_⟩⟩
        rw [hdl1] at hi
        have hci := hc (i + 1) (o3 i hi)
        have hgi : g (s.drop (k + 1)) i = g (s.drop k) (i + 1) := by
          rw [hgd]; simp [g, List.getD_eq_getElem?_getD, Nat.add_assoc, Nat.add_comm 1 i]
        have hbb : (w2.setCell ⟨r, 0, none⟩ u').heap[b]? = wr.heap[b]? := (hb3 b hbr).trans (hb2 b (hT b hTb))
        rw [hgi, show off + 2 + i * 2 = off + (i + 1) * 2 by omega]
        exact ⟨(World.cell?_of_block (a := ⟨b, off + (i + 1) * 2, none⟩) hbb).trans hci.1, (World.cell?_of_block (a := ⟨b, off + (i + 1) * 2 + 1, none⟩) hbb).trans hci.2⟩
    · have := hu.few; simp at this ⊢; omega
  · exact ⟨hg.os.trans h.keeps.os, hg.tape.trans h.keeps.tape, hg.output.trans h.keeps.output, by rw [hsz3]; exact Nat.le_trans h.keeps.size hsz2, fun q hq hS => (hb3 q (fun e => hS (e ▸ hu.self))).trans ((hb2 q hq).trans (h.keeps.block q hq hS))⟩
  · rw [List.take_add_one, hx] at hy
    rcases List.mem_append.1 hy with hy | hy
    · exact h.due y hy
    · have : y = x := by simpa using hy
      rw [this]; exact hd

theorem RDueAt.look {w : World} {T : Nat → Prop} {r : Nat} {s : List Tm} {now : Int} {k : Nat} {v : Value} {wr : World} (h : RDueAt w T r s now k v wr) {x : Tm} (hx : s[k]? = some x) :
    ∃ b off cap, wr.cell? ⟨r, 0, none⟩ = some (.slice (some ⟨b, off, none⟩) (s.length - k) cap) ∧ wr.cell? ⟨b, off + 1, none⟩ = some (.int .i64 x.tick) ∧ s.length - k ≤ cap := by
  obtain ⟨u, hu⟩ := h.rt
  have hk := (List.getElem?_eq_some_iff.1 hx).1
  obtain ⟨oa, cap, rfl, h1, h2, h3⟩ := hu.row
  have hdl : (s.drop k).length = s.length - k := by simp
  obtain ⟨b, off, rfl, hTb, hbl, hc⟩ := h3 (by omega)
  have hgd : g (s.drop k) 0 = x := by rw [← g_eq hx]; simp [g, List.getD_eq_getElem?_getD]
  have hc0 := hc 0 (by omega)
  rw [hgd] at hc0
  rw [hdl] at h1
  exact ⟨b, off, cap, by rw [hu.c0, hdl], by simpa using hc0.2, h1⟩
theorem RDueAt.empty {w : World} {T : Nat → Prop} {r : Nat} {s : List Tm} {now : Int} {k : Nat} {v : Value} {wr : World} (h : RDueAt w T r s now k v wr) (hk : s.length ≤ k) : ∃ oa cap, wr.cell? ⟨r, 0, none⟩ = some (.slice oa 0 cap) := by
  obtain ⟨u, hu⟩ := h.rt
  obtain ⟨oa, cap, rfl, _⟩ := hu.row
  have hdl : (s.drop k).length = 0 := by simp; omega
  exact ⟨oa, cap, by rw [hu.c0, hdl]⟩

set_option maxHeartbeats 1600000 in
theorem rdue_any {w : World} {T : Nat → Prop} {r : Nat} {v : Value} {s : List Tm} (h : RT w T r v s) (now : Int) :
    Calls Try.prog 15 #[.pointer (some ⟨r, 0, none⟩), .int .i64 now] w fun e w' => ∃ v, e = .returned v ∧ w'.ownsRow w.heap.size 3 1 v (dueL s now).length (keyCells (dueL s now)) ∧ (∃ u, RT w' T r u (restL s now)) ∧ Keeps T w w' := by
  have hslen := h.few
  have hT := hid h.below
  obtain ⟨i0, hi0, hz0, hz1, hz2⟩ := info_parts3
  have H0 : Hid (RDueAt w T r s now 0 (.slice none 0 0) w) := ⟨⟨rfl, .inl ⟨rfl, rfl⟩⟩, ⟨v, h⟩, .refl _ _, fun x hx => by simp at hx⟩
  clear h
  go_enter Try.func15, Try.ntmps15
  go_wp2
  go_loopg [5] s.length (fun kx s5 wr => ∃ (k : Nat) (sv : Value), k ≤ s.length ∧ s.length - k ≤ kx ∧ sv = s5 ∧ Hid (RDueAt w T r s now k sv wr))
  case atStart => exact ⟨0, _, Nat.zero_le _, by omega, rfl, H0⟩
  case round =>
    obtain ⟨k, sv, hk, hkx, rfl, HD⟩ := hrel
    by_cases hlt : k < s.length
    · obtain ⟨x, hx⟩ : ∃ x, s[k]? = some x := ⟨_, List.getElem?_eq_getElem hlt⟩
      have hpos : (0 : Int) < ((s.length - k : Nat) : Int) := by omega
      by_cases hd : x.tick ≤ now
      · obtain ⟨b, off, cap, u', c0, p0, p1, hcap, hu', hrow, hsz, hnext⟩ := HD.out.next hT.out hx hd
        have hlen1 : (s.length - k : Nat) - 1 = s.length - (k + 1) := by omega
        have hone : (1 : Int) ≤ ((s.length - k : Nat) : Int) := by omega
        have HR := hid hrow
        have HX := hid hnext
        clear hrow hnext HD hx H0
        generalize hnk : s.length - k = nk at *
        by_cases hcz : cap - 1 = 0
        · rw [if_pos hcz] at hu'
          subst hu'
          go_wp2_with (at_builtin; refine wpList_append_own _ rfl _ _ 37 rfl w.heap.size 3 i0 _ 1 8 Try.underlying37 hi0 hz0 hz1 hz2 rfl (by decide) _ k (keyCells (s.take k)) rfl (HR.out _) ⟨wr.heap.size, 0, none⟩ 1 1 [.int .i64 x.key] rfl rfl (one_cell rfl) (by simp [Value.oneCell']) (by unfold maxLen; omega) (by omega) (by simp; omega) ?_; intro v' w2 hown2 hg2 _; obtain ⟨q0, q1, hfin⟩ := HX.out _ v' w2 hown2 hg2; have HF := hid hfin; clear hown2 hg2 hfin)
          have HF' : Hid (RDueAt w T r s now (k + 1) v' (w2.setCell ⟨r, 0, none⟩ (.slice (some ⟨b, off, none⟩) (s.length - (k + 1)) 0))) := by rw [hcz] at HF; exact HF
          go_roundg (s.length - (k + 1))
          case measure => omega
          case rel => exact ⟨k + 1, _, by omega, Nat.le_refl _, rfl, HF'⟩
        · rw [if_neg hcz] at hu'
          subst hu'
          go_wp2_with (at_builtin; refine wpList_append_own _ rfl _ _ 37 rfl w.heap.size 3 i0 _ 1 8 Try.underlying37 hi0 hz0 hz1 hz2 rfl (by decide) _ k (keyCells (s.take k)) rfl (HR.out _) ⟨wr.heap.size, 0, none⟩ 1 1 [.int .i64 x.key] rfl rfl (one_cell rfl) (by simp [Value.oneCell']) (by unfold maxLen; omega) (by omega) (by simp; omega) ?_; intro v' w2 hown2 hg2 _; obtain ⟨q0, q1, hfin⟩ := HX.out _ v' w2 hown2 hg2; have HF := hid hfin; clear hown2 hg2 hfin)
          go_roundg (s.length - (k + 1))
          case measure => omega
          case rel => exact ⟨k + 1, _, by omega, Nat.le_refl _, rfl, HF⟩
      · have HFin : Hid (dueL s now = s.take k ∧ restL s now = s.drop k) := due_split now s k hk HD.out.due (fun y hy => by rw [hx] at hy; cases hy; omega)
        obtain ⟨b, off, cap, c0, p1, hcap⟩ := HD.out.look hx
        clear hx H0
        generalize hnk : s.length - k = nk at *
        go_wp2
        go_ret
        have hl : (s.take k).length = k := by simp; omega
        rw [HFin.out.1, HFin.out.2, hl]
        exact ⟨_, rfl, HD.out.row, HD.out.rt, HD.out.keeps⟩
    · have hks : k = s.length := by omega
      have HFin : Hid (dueL s now = s.take k ∧ restL s now = s.drop k) := due_split now s k hk HD.out.due (fun y hy => by rw [List.getElem?_eq_none (by omega)] at hy; cases hy)
      obtain ⟨oa, cap, c0⟩ := HD.out.empty (by omega)
      clear H0
      go_wp2
      go_ret
      have hl : (s.take k).length = k := by simp; omega
      rw [HFin.out.1, HFin.out.2, hl]
      exact ⟨_, rfl, HD.out.row, HD.out.rt, HD.out.keeps⟩

end Go.Proofs.Ytohbnkghenlnoaa
