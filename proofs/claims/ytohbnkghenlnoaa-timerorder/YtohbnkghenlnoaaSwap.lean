/- queue.Swap. -/
import Derived.Test.YtohbnkghenlnoaaLess
import Derived.BigRegion
namespace Go.Proofs.Ytohbnkghenlnoaa
open Go.RowKit Go.Maps
set_option maxRecDepth 100000
set_option linter.unusedSimpArgs false
set_option linter.unusedVariables false

/-- Two timers written at two places of a row. -/
def wrote (w : World) (b i j : Nat) (x y : Tm) : World :=
  (((w.setCell ⟨b, i * 2, none⟩ (.int .i64 y.key)).setCell ⟨b, i * 2 + 1, none⟩ (.int .i64 y.tick)).setCell ⟨b, j * 2, none⟩ (.int .i64 x.key)).setCell ⟨b, j * 2 + 1, none⟩ (.int .i64 x.tick)

set_option maxHeartbeats 1600000 in
theorem swap_walk (w w2 w3 : World) (a b cap n m : Nat) (i j : Nat) (x y : Tm) (hi : i < n) (hj : j < n)
    (c0 : w.cell? ⟨a, 0, none⟩ = some (.slice (some ⟨b, 0, none⟩) n cap)) (hab : b ≠ a)
    (i0 : w.cell? ⟨b, i * 2, none⟩ = some (.int .i64 x.key)) (i1 : w.cell? ⟨b, i * 2 + 1, none⟩ = some (.int .i64 x.tick))
    (j0 : w.cell? ⟨b, j * 2, none⟩ = some (.int .i64 y.key)) (j1 : w.cell? ⟨b, j * 2 + 1, none⟩ = some (.int .i64 y.tick)) 
    (hf : ∀ k, w.frozen? ⟨b, k, none⟩ = false)
    (s0 : ∃ u, ((w.setCell ⟨b, i * 2, none⟩ (.int .i64 y.key)).setCell ⟨b, i * 2 + 1, none⟩ (.int .i64 y.tick)).cell? ⟨b, j * 2, none⟩ = some u)
    (s1 : ∃ u, ((w.setCell ⟨b, i * 2, none⟩ (.int .i64 y.key)).setCell ⟨b, i * 2 + 1, none⟩ (.int .i64 y.tick)).cell? ⟨b, j * 2 + 1, none⟩ = some u)
    (d0 : (wrote w b i j x y).cell? ⟨a, 0, none⟩ = some (.slice (some ⟨b, 0, none⟩) n cap)) (d1 : (wrote w b i j x y).cell? ⟨a, 1, none⟩ = some (.map (some m)))
    (di : (wrote w b i j x y).cell? ⟨b, i * 2, none⟩ = some (.int .i64 y.key))
    (hrun1 : (Instr.mapUpdate 47 (.map (some m)) (.int .i64 y.key) (.int .i64 (i : Int))).run Try.prog (wrote w b i j x y).drew.drew = .ok () w2)
    (e0 : w2.cell? ⟨a, 0, none⟩ = some (.slice (some ⟨b, 0, none⟩) n cap)) (e1 : w2.cell? ⟨a, 1, none⟩ = some (.map (some m)))
    (ej : w2.cell? ⟨b, j * 2, none⟩ = some (.int .i64 x.key))
    (hrun2 : (Instr.mapUpdate 47 (.map (some m)) (.int .i64 x.key) (.int .i64 (j : Int))).run Try.prog w2.drew = .ok () w3) :
    Calls Try.prog 50 #[.pointer (some ⟨a, 0, none⟩), .int .i64 (i : Int), .int .i64 (j : Int)] w fun e w' => e = .returned (.tuple #[]) ∧ w' = w3 := by
  have hiz : (i : Int) < (n : Int) := by omega
  have hjz : (j : Int) < (n : Int) := by omega
  obtain ⟨u0, s0⟩ := s0
  obtain ⟨u1, s1⟩ := s1
  have HF : Hid (_ ∧ _ ∧ _ ∧ _) := ⟨d0, d1, di, hrun1⟩
  clear d0 d1 di hrun1
  go_enter Try.func50, Try.ntmps50
  go_wp2
  go_region
  unfold wrote at HF
  generalize hW : ((((w.setCell ⟨b, i * 2, none⟩ (.int .i64 y.key)).setCell ⟨b, i * 2 + 1, none⟩ (.int .i64 y.tick)).setCell ⟨b, j * 2, none⟩ (.int .i64 x.key)).setCell ⟨b, j * 2 + 1, none⟩ (.int .i64 x.tick)) = W1 at HF ⊢
  obtain ⟨d0, d1, di, hrun1⟩ := HF.out
  clear HF hW s0 s1 c0 i0 i1 j0 j1 hf
  go_wp2
  go_region
  go_wp2
  go_region
  go_end0
  exact ⟨rfl, rfl⟩

theorem Agree.inj {ps : List (Int × Int)} {l : List Tm} (h : Agree ps l) {i j : Nat} (hi : i < l.length) (hj : j < l.length) (e : (g l i).key = (g l j).key) : i = j := by
  have h1 := plook_some ps h.apart (h.here i hi)
  have h2 := plook_some ps h.apart (h.here j hj)
  rw [e, h2] at h1
  simp at h1
  omega

theorem Agree.swap {ps : List (Int × Int)} {l : List Tm} (h : Agree ps l) {i j : Nat} (hi : i < l.length) (hj : j < l.length) : Agree (pput (pput ps (g l j).key (i : Int)) (g l i).key (j : Int)) (swp l i j) := by
  have hs := fun k => g_swp l i j k hi hj
  have hne : i ≠ j → (g l j).key ≠ (g l i).key := fun hne e => hne (h.inj hi hj e.symm)
  have a1 := apart_pput (g l j).key (i : Int) h.apart
  refine ⟨?_, apart_pput _ _ a1, fun k hk => ?_, fun p hp => ?_⟩
  · rw [swp_len, ← h.len]
    have l1 := len_pput (v := (i : Int)) h.apart (h.here j hj)
    by_cases e : i = j
    · subst e
      rw [len_pput (u := (i : Int)) a1 ((mem_pput _ _ _ _).2 (.inl rfl)), l1]
    · rw [len_pput (u := (i : Int)) a1 ((mem_pput _ _ _ _).2 (.inr ⟨h.here i hi, fun e2 => hne e e2.symm⟩)), l1]
  · rw [swp_len] at hk
    rw [hs, mem_pput]
    by_cases e : k = j
    · subst e; rw [if_pos rfl]; exact .inl rfl
    · rw [if_neg e]
      by_cases e2 : k = i
      · subst e2; rw [if_pos rfl]
        exact .inr ⟨(mem_pput _ _ _ _).2 (.inl rfl), hne e⟩
      · rw [if_neg e2]
        exact .inr ⟨(mem_pput _ _ _ _).2 (.inr ⟨h.here k hk, fun e3 => e (h.inj hk hj e3)⟩), fun e3 => e2 (h.inj hk hi e3)⟩
  · rw [swp_len]
    rcases (mem_pput _ _ _ _).1 hp with rfl | ⟨hp, hp1⟩
    · exact ⟨j, hj, by rw [hs, if_pos rfl]⟩
    · rcases (mem_pput _ _ _ _).1 hp with rfl | ⟨hp, hp2⟩
      · have hij : i ≠ j := fun e => hp1 (by rw [e])
        exact ⟨i, hi, by rw [hs, if_neg hij, if_pos rfl]⟩
      · obtain ⟨k, hk, rfl⟩ := h.there p hp
        refine ⟨k, hk, ?_⟩
        rw [hs, if_neg (fun e => hp2 (by rw [e])), if_neg (fun e => hp1 (by rw [e]))]

theorem QM.some_map {w : World} {S : Nat → Prop} {a : Nat} {v : Value} {mo : Option Nat} {l : List Tm} {ps : List (Int × Int)} (h : QM w S a v mo l ps) (hl : 0 < l.length) : ∃ m, mo = some m := by
  cases mo with
  | none => have e : ps = [] := h.map; have := h.agree.len; subst e; simp at this; omega
  | some m => exact ⟨m, rfl⟩

theorem wrote_block (w : World) (b i j : Nat) (x y : Tm) (k : Nat) (hk : k ≠ b) : (wrote w b i j x y).heap[k]? = w.heap[k]? := by
  unfold wrote
  rw [Below.heap_setCell _ _ _ k hk, Below.heap_setCell _ _ _ k hk, Below.heap_setCell _ _ _ k hk, Below.heap_setCell _ _ _ k hk]
theorem wrote_size (w : World) (b i j : Nat) (x y : Tm) : (wrote w b i j x y).heap.size = w.heap.size := by simp [wrote, World.setCell]
theorem heap_drew (w : World) (k : Nat) : w.drew.heap[k]? = w.heap[k]? := rfl
theorem size_drew (w : World) : w.drew.heap.size = w.heap.size := rfl
theorem row_kept {w w1 : World} {e : TypeId} {size n b cap : Nat} {xs : List Value} (h : w.ownsRow 0 e size (.slice (some ⟨b, 0, none⟩) n cap) n xs) (hb : w1.heap[b]? = w.heap[b]?) : w1.ownsRow 0 e size (.slice (some ⟨b, 0, none⟩) n cap) n xs := by
  refine ⟨h.1, ?_⟩
  rcases h.2 with h0 | ⟨b', cap', cur, e, hb0, hg, rest⟩
  · exact .inl h0
  · have : b' = b := by simp only [Value.slice.injEq, Option.some.injEq, Addr.mk.injEq] at e; exact e.1.1.symm
    subst this
    exact .inr ⟨b', cap', cur, e, hb0, hb.trans hg, rest⟩
theorem row_at {w : World} {b cap : Nat} {l : List Tm} (h : w.ownsRow 0 54 2 (.slice (some ⟨b, 0, none⟩) l.length cap) l.length (flat l)) (i : Nat) (hi : i < l.length) :
    w.cell? ⟨b, i * 2, none⟩ = some (.int .i64 (g l i).key) ∧ w.cell? ⟨b, i * 2 + 1, none⟩ = some (.int .i64 (g l i).tick) := by
  obtain ⟨h0, h1⟩ := flat_at l i _ (g_some hi)
  exact ⟨(h.cellAt _ (by omega)).trans h0, (h.cellAt _ (by omega)).trans h1⟩

set_option maxHeartbeats 1600000 in
theorem swap_any {w : World} {S : Nat → Prop} {a : Nat} {v : Value} {mo : Option Nat} {l : List Tm} {ps : List (Int × Int)} (h : QM w S a v mo l ps) (i j : Nat) (hi : i < l.length) (hj : j < l.length) :
    Calls Try.prog 50 #[.pointer (some ⟨a, 0, none⟩), .int .i64 (i : Int), .int .i64 (j : Int)] w fun e w' => e = .returned (.tuple #[]) ∧ ∃ ps', QM w' S a v mo (swp l i j) ps' ∧ Keeps S w w' := by
  obtain ⟨oa, cap, rfl, hcap, hcm, hoa, _⟩ := h.shape
  obtain ⟨b, rfl, hSb, hba⟩ := hoa (by omega)
  obtain ⟨m, rfl⟩ := h.some_map (by omega)
  have hrow := h.row
  have hbh : ∃ cur, w.heap[b]? = some (.cells cur 54) := by
    obtain ⟨_, h0 | ⟨b', cap', cur, e, _, hg, _⟩⟩ := hrow
    · cases h0.1
    · have : b' = b := by simp only [Value.slice.injEq, Option.some.injEq, Addr.mk.injEq] at e; exact e.1.1.symm
      subst this; exact ⟨cur, hg⟩
  obtain ⟨cur, hbh⟩ := hbh
  have hmh : ∃ es clock, w.heap[m]? = some (.map es clock) := by obtain ⟨es, clock, e, _⟩ := h.map; exact ⟨es, clock, e⟩
  obtain ⟨es, clock, hmh⟩ := hmh
  have hmb : m ≠ b := fun e => by subst e; rw [hmh] at hbh; cases hbh
  have hma : m ≠ a := fun e => by subst e; have := h.cells; rw [hmh] at this; cases this
  -- the row behind the first stores, and behind all
  have r1 := (hrow.stored (i * 2) (.int .i64 (g l j).key)).1
  have r2 := (r1.stored (i * 2 + 1) (.int .i64 (g l j).tick)).1
  rw [flat_set l i (g l j)] at r2
  have r3 := (r2.stored (j * 2) (.int .i64 (g l i).key)).1
  have r4 := (r3.stored (j * 2 + 1) (.int .i64 (g l i).tick)).1
  rw [flat_set (l.set i (g l j)) j (g l i)] at r4
  have R : (wrote w b i j (g l i) (g l j)).ownsRow 0 54 2 (.slice (some ⟨b, 0, none⟩) (swp l i j).length cap) (swp l i j).length (flat (swp l i j)) := by rw [swp_len]; exact r4
  have hs := fun k => g_swp l i j k hi hj
  have hgi : g (swp l i j) i = g l j := by rw [hs]; split; · rename_i e; rw [e]
                                           · rw [if_pos rfl]
  have hgj : g (swp l i j) j = g l i := by rw [hs, if_pos rfl]
  have wb := wrote_block w b i j (g l i) (g l j)
  have wz := wrote_size w b i j (g l i) (g l j)
  have c0' : ∀ W : World, W.heap[a]? = w.heap[a]? → W.cell? ⟨a, 0, none⟩ = some (.slice (some ⟨b, 0, none⟩) l.length cap) := fun W hW => (World.cell?_of_block (a := ⟨a, 0, none⟩) hW).trans h.c0
  have c1' : ∀ W : World, W.heap[a]? = w.heap[a]? → W.cell? ⟨a, 1, none⟩ = some (.map (some m)) := fun W hW => (World.cell?_of_block (a := ⟨a, 1, none⟩) hW).trans h.c1
  have hM1 : (wrote w b i j (g l i) (g l j)).drew.drew.ownsMap Try.prog 3 (plainElem Try.prog 3) m ps.length (pmap ps) := MapAt.kept (mo := some m) h.map (fun b' e => by cases e; exact wb m hmb)
  have hi64 : ∀ k, k < l.length → I64 (k : Int) := fun k hk => by have := h.few; unfold I64; omega
  have hkey : ∀ k, k < l.length → keyOf Try.prog 3 (.int .i64 (g l k).key) = some (.int .i64 (g l k).key) := fun k hk => keyOf_int_mk Try.underlying3 (wf_of (h.rng _ (g_mem hk)))
  have hval : ∀ k : Nat, k < l.length → plainElem (H := Unit) Try.prog 3 (.int .i64 (k : Int)) = some (.lit (.int .i64 (k : Int)), []) := fun k hk => plainElem_int Try.underlying3 (wf_of (hi64 k hk))
  obtain ⟨w2, hrun1, hown2, ht2⟩ := hM1.store law3 Try.underlying47 (by have := h.few; have := h.agree.len; unfold maxLen; omega) (hkey j hj) (hval i hi)
  rw [pmap_put] at hown2
  have hown2 := tight hown2
  rw [pmap_size] at hown2
  have g2 := ht2.grown
  have b2 : ∀ k, k < w.heap.size → k ≠ m → w2.heap[k]? = (wrote w b i j (g l i) (g l j)).heap[k]? := fun k hk hne => g2.block k (by show k < (wrote w b i j (g l i) (g l j)).heap.size; rw [wz]; exact hk) (by simpa using hne)
  have z2 : w.heap.size ≤ w2.heap.size := by have := g2.size; rw [← wz]; exact this
  have hag := h.agree
  have hl1 := len_pput (v := (i : Int)) hag.apart (hag.here j hj)
  obtain ⟨w3, hrun2, hown3, ht3⟩ := (hown2.drew).store law3 Try.underlying47 (by have := h.few; have := h.agree.len; unfold maxLen; omega) (hkey i hi) (hval j hj)
  rw [pmap_put] at hown3
  have hown3 := tight hown3
  rw [pmap_size] at hown3
  have g3 := ht3.grown
  have b3 : ∀ k, k < w.heap.size → k ≠ m → w3.heap[k]? = (wrote w b i j (g l i) (g l j)).heap[k]? := fun k hk hne => (g3.block k (by show k < w2.heap.size; omega) (by simpa using hne)).trans (b2 k hk hne)
  have z3 : w.heap.size ≤ w3.heap.size := Nat.le_trans z2 g3.size
  have hal := h.below a h.self
  have hbl := h.below b hSb
  have R2 := row_kept R (b2 b hbl hmb.symm)
  have R3 := row_kept R (b3 b hbl hmb.symm)
  have hjs : j < (swp l i j).length := by rw [swp_len]; exact hj
  have his : i < (swp l i j).length := by rw [swp_len]; exact hi
  obtain ⟨i0, i1⟩ := h.at_ i hi
  obtain ⟨j0, j1⟩ := h.at_ j hj
  have di := (row_at R i his).1
  rw [hgi] at di
  have ej := (row_at R2 j hjs).1
  rw [hgj] at ej
  have hexi : ∀ q, q < l.length * 2 → ∃ u, ((w.setCell ⟨b, i * 2, none⟩ (.int .i64 (g l j).key)).setCell ⟨b, i * 2 + 1, none⟩ (.int .i64 (g l j).tick)).cell? ⟨b, q, none⟩ = some u := fun q hq => by
    rw [r2.cellAt q hq]
    have hq2 : q < (flat (l.set i (g l j))).length := by rw [flat_length]; simpa using hq
    exact ⟨_, List.getElem?_eq_getElem hq2⟩
  refine (swap_walk w w2 w3 a b cap l.length m i j (g l i) (g l j) hi hj h.c0 hba i0 i1 j0 j1 (fun k => hrow.frozenAt k) (hexi _ (by omega)) (hexi _ (by omega)) (c0' _ (wb a hba.symm)) (c1' _ (wb a hba.symm)) di hrun1
    (c0' _ ((b2 a hal hma.symm).trans (wb a hba.symm))) (c1' _ ((b2 a hal hma.symm).trans (wb a hba.symm))) ej hrun2).mono ?_
  rintro e w' ⟨rfl, rfl⟩
  refine ⟨rfl, _, ⟨fun k hk => Nat.lt_of_lt_of_le (h.below k hk) z3, h.self, ((b3 a hal hma.symm).trans (wb a hba.symm)).trans h.cells, ?_, h.rowS, hown3, h.mapS, hag.swap hi hj, by rw [swp_len]; exact h.few, fun x hx => h.rng x ((swp_perm l i j hi hj).mem_iff.1 hx)⟩,
    ⟨g3.os.trans g2.os, g3.tape.trans g2.tape, g3.output.trans g2.output, z3, fun k hk hS => (b3 k hk (fun e => hS (e ▸ h.mapS m rfl))).trans (wb k (fun e => hS (e ▸ hSb)))⟩⟩
  rw [swp_len] at R3 ⊢
  exact R3

end Go.Proofs.Ytohbnkghenlnoaa
