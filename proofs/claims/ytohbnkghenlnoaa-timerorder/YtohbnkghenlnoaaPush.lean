/- queue.Push. -/
import Derived.Test.YtohbnkghenlnoaaPop
import Derived.Maps.AppendAt
namespace Go.Proofs.Ytohbnkghenlnoaa
open Go.RowKit Go.Maps
set_option maxRecDepth 100000
set_option linter.unusedSimpArgs false
set_option linter.unusedVariables false

theorem g_append_left {l : List Tm} {x : Tm} {i : Nat} (h : i < l.length) : g (l ++ [x]) i = g l i := by
  simp [g, List.getD_eq_getElem?_getD, List.getElem?_append_left h]
theorem g_append_new (l : List Tm) (x : Tm) : g (l ++ [x]) l.length = x := by
  simp [g, List.getD_eq_getElem?_getD]

theorem Agree.push {ps : List (Int × Int)} {l : List Tm} (h : Agree ps l) {x : Tm} (hx : ∀ y ∈ l, y.key ≠ x.key) : Agree (pput ps x.key (l.length : Int)) (l ++ [x]) := by
  have hp : ∀ p ∈ ps, p.1 ≠ x.key := fun p hp => by
    obtain ⟨i, hi, rfl⟩ := h.there p hp
    exact hx _ (g_mem hi)
  refine ⟨by rw [len_pput_new hp, h.len]; simp, apart_pput _ _ h.apart, fun i hi => ?_, fun p hpp => ?_⟩
  · rw [mem_pput]
    by_cases e : i = l.length
    · subst e; rw [g_append_new]; exact .inl rfl
    · have hi' : i < l.length := by simp at hi; omega
      rw [g_append_left hi']
      exact .inr ⟨h.here i hi', hx _ (g_mem hi')⟩
  · rcases (mem_pput _ _ _ _).1 hpp with rfl | ⟨hpp, _⟩
    · exact ⟨l.length, by simp, by rw [g_append_new]⟩
    · obtain ⟨i, hi, rfl⟩ := h.there p hpp
      exact ⟨i, by simp; omega, by rw [g_append_left hi]⟩

def tc (x : Tm) : Obj := .cells #[.int .i64 x.key, .int .i64 x.tick] 54

/-- What Push leaves of the world W0 (its map is there). -/
structure Pushed (W0 : World) (S : Nat → Prop) (a m : Nat) (v : Value) (l : List Tm) (ps : List (Int × Int)) (x : Tm) (w2 : World) : Prop where
  run : (Instr.mapUpdate 47 (.map (some m)) (.int .i64 x.key) (.int .i64 (l.length : Int))).run Try.prog (W0.alloc (tc x)).drew = .ok () w2
  a0 : w2.cell? ⟨a, 0, none⟩ = some v
  af : w2.frozen? ⟨a, 0, none⟩ = false
  k0 : w2.cell? ⟨W0.heap.size, 0, none⟩ = some (.int .i64 x.key)
  k1 : w2.cell? ⟨W0.heap.size, 1, none⟩ = some (.int .i64 x.tick)
  size : W0.heap.size + 1 ≤ w2.heap.size
  row : w2.ownsRow 0 54 2 v l.length (flat l)
  fin : ∀ (q : Nat) (v' : Value) (w3 : World), w3.ownsRow 0 54 2 v' (l.length + 1) (flat l ++ tcells x) → ((w2.drewN q).alloc (tc x)).grownBy w3 v.ownBlock → (v'.ownBlock = v.ownBlock ∨ v'.ownBlock = some ((w2.drewN q).alloc (tc x)).heap.size) →
    w3.cell? ⟨a, 0, none⟩ = some v ∧ w3.frozen? ⟨a, 0, none⟩ = false ∧ ∃ S' ps', QM (w3.setCell ⟨a, 0, none⟩ v') S' a v' (some m) (l ++ [x]) ps' ∧ (∀ k, S' k → S k ∨ W0.heap.size ≤ k) ∧ (∀ k, S k → S' k) ∧ Keeps S W0 (w3.setCell ⟨a, 0, none⟩ v')

theorem push_fin {W0 : World} {S : Nat → Prop} {a m : Nat} {v : Value} {l : List Tm} {ps : List (Int × Int)} (h : QM W0 S a v (some m) l ps) (x : Tm) (hx : ∀ y ∈ l, y.key ≠ x.key) (hr : I64 x.key) (hl : l.length < 1000) : ∃ w2, Pushed W0 S a m v l ps x w2 := by
  have hu : QM (W0.alloc (tc x)) S a v (some m) l ps := h.under ((Below.refl _ W0).alloc (Nat.le_refl _) _)
  have hal := h.below a h.self
  have hml := h.below m (h.mapS m rfl)
  have hM : (W0.alloc (tc x)).drew.ownsMap Try.prog 3 (plainElem Try.prog 3) m ps.length (pmap ps) := MapAt.kept (w := W0.alloc (tc x)) (mo := some m) hu.map (fun b' e => rfl)
  have hkey := keyOf_int_mk Try.underlying3 (wf_of hr)
  have hval : plainElem (H := Unit) Try.prog 3 (.int .i64 (l.length : Int)) = some (.lit (.int .i64 (l.length : Int)), []) := plainElem_int Try.underlying3 (wf_of (by unfold I64; omega))
  obtain ⟨w2, hrun, hown, ht⟩ := hM.store law3 Try.underlying47 (by have := h.agree.len; unfold maxLen; omega) hkey hval
  rw [pmap_put] at hown
  have hown := tight hown
  rw [pmap_size] at hown
  have hg := ht.grown
  have hsz : (W0.alloc (tc x)).heap.size = W0.heap.size + 1 := by simp
  have hb2 : ∀ k, k < W0.heap.size + 1 → k ≠ m → w2.heap[k]? = (W0.alloc (tc x)).heap[k]? := fun k hk hne => hg.block k (by show k < (W0.alloc (tc x)).heap.size; omega) (by simpa using hne)
  have hz2 : W0.heap.size + 1 ≤ w2.heap.size := by have := hg.size; rw [← hsz]; exact this
  have hmh : ∃ es clock, W0.heap[m]? = some (.map es clock) := by obtain ⟨es, clock, e, _⟩ := h.map; exact ⟨es, clock, e⟩
  obtain ⟨es, clock, hmh⟩ := hmh
  have hma : m ≠ a := fun e => by subst e; have := h.cells; rw [hmh] at this; cases this
  have hvb : ∀ k, v.ownBlock = some k → k < W0.heap.size ∧ k ≠ m ∧ k ≠ a := fun k hk => by
    refine ⟨h.below k (h.rowS k hk), fun e => ?_, fun e => ?_⟩
    all_goals
      rcases h.row.2 with ⟨e0, _⟩ | ⟨b', cap', cur, e0, _, hg0, _⟩
      · rw [e0] at hk; cases hk
      · rw [e0] at hk
        have : b' = k := by simpa [Value.ownBlock] using hk
        subst this; subst e
        first
          | (rw [hmh] at hg0; cases hg0)
          | (rw [h.cells] at hg0; simp only [Option.some.injEq, Obj.cells.injEq] at hg0; exact absurd hg0.2.1 (by decide))
  have hbelow : ∀ k, k < W0.heap.size → k ≠ m → w2.heap[k]? = W0.heap[k]? := fun k hk hne => (hb2 k (by omega) hne).trans (Below.heap_alloc _ _ k hk)
  have hrow2 : w2.ownsRow 0 54 2 v l.length (flat l) := by
    refine ⟨h.row.1, ?_⟩
    rcases h.row.2 with h0 | ⟨b', cap', cur, e0, hb0, hg0, rest⟩
    · exact .inl h0
    · obtain ⟨q1, q2, q3⟩ := hvb b' (by rw [e0]; rfl)
      exact .inr ⟨b', cap', cur, e0, hb0, (hbelow b' q1 q2).trans hg0, rest⟩
  have hcells2 : w2.heap[a]? = some (.cells #[v, .map (some m)] 51 (0, 0)) := (hbelow a hal hma.symm).trans h.cells
  refine ⟨w2, hrun, by simp [World.cell?, hcells2], by simp [World.frozen?, hcells2], ?_, ?_, hz2, hrow2, fun q v' w3 hown3 hg3 hat => ?_⟩
  · exact (World.cell?_of_block (a := ⟨W0.heap.size, 0, none⟩) (hb2 W0.heap.size (by omega) (by omega))).trans (cell_new rfl rfl)
  · exact (World.cell?_of_block (a := ⟨W0.heap.size, 1, none⟩) (hb2 W0.heap.size (by omega) (by omega))).trans (cell_new rfl rfl)
  · have hsz3 : ((w2.drewN q).alloc (tc x)).heap.size = w2.heap.size + 1 := by simp
    have hb3 : ∀ k, k < w2.heap.size → v.ownBlock ≠ some k → w3.heap[k]? = w2.heap[k]? := fun k hk hne => (hg3.block k (by omega) (fun e => hne e.symm)).trans (Below.heap_alloc _ _ k hk)
    have hz3 : w2.heap.size + 1 ≤ w3.heap.size := by have := hg3.size; omega
    have hva : v.ownBlock ≠ some a := fun e => (hvb a e).2.2 rfl
    have hvm : v.ownBlock ≠ some m := fun e => (hvb m e).2.1 rfl
    have hcells3 : w3.heap[a]? = some (.cells #[v, .map (some m)] 51 (0, 0)) := (hb3 a (by omega) hva).trans hcells2
    have hmap3 : w3.heap[m]? = w2.heap[m]? := hb3 m (by omega) hvm
    have hsz4 : (w3.setCell ⟨a, 0, none⟩ v').heap.size = w3.heap.size := by simp [World.setCell]
    have hb4 : ∀ k, k ≠ a → (w3.setCell ⟨a, 0, none⟩ v').heap[k]? = w3.heap[k]? := fun k hne => Below.heap_setCell _ _ _ k hne
    have hcells4 : (w3.setCell ⟨a, 0, none⟩ v').heap[a]? = some (.cells #[v', .map (some m)] 51 (0, 0)) := by simp [World.setCell, Array.getElem?_modify, hcells3]
    -- the row's new block
    have hnew : ∃ b' cap', v' = .slice (some ⟨b', 0, none⟩) (l.length + 1) cap' ∧ b' ≠ a ∧ b' < w3.heap.size ∧ (S b' ∨ W0.heap.size ≤ b') := by
      rcases hown3.2 with ⟨_, h0⟩ | ⟨b', cap', cur, e0, _, hg0, _⟩
      · omega
      · refine ⟨b', cap', e0, fun e => ?_, (Array.getElem?_eq_some_iff.1 hg0).1, ?_⟩
        · subst e; rw [hcells3] at hg0; simp only [Option.some.injEq, Obj.cells.injEq] at hg0; exact absurd hg0.2.1 (by decide)
        · rw [e0] at hat
          rcases hat with e | e
          · exact .inl (h.rowS b' e.symm)
          · refine .inr ?_
            have : b' = ((w2.drewN q).alloc (tc x)).heap.size := by simpa [Value.ownBlock] using e
            omega
    obtain ⟨b', cap', rfl, hba', hbl', hbS⟩ := hnew
    refine ⟨by simp [World.cell?, hcells3], by simp [World.frozen?, hcells3], fun k => S k ∨ k = b', pput ps x.key (l.length : Int), ?_, ?_, fun k hk => .inl hk, ?_⟩
    · refine ⟨fun k hk => ?_, .inl h.self, hcells4, ?_, fun k hk => ?_, ?_, fun b e => .inl (h.mapS b e), h.agree.push hx, by simp; omega, fun y hy => ?_⟩
      · rw [hsz4]
        rcases hk with hk | rfl
        · have := h.below k hk; omega
        · exact hbl'
      · have hr3 := row_kept hown3 (hb4 b' hba')
        rw [flat_append, List.length_append]
        exact hr3
      · have : b' = k := by simpa [Value.ownBlock] using hk
        exact .inr this.symm
      · exact MapAt.kept (w := w2) (mo := some m) hown (fun b e => by cases e; exact (hb4 m hma).trans hmap3)
      · rcases List.mem_append.1 hy with hy | hy
        · exact h.rng y hy
        · have : y = x := by simpa using hy
          rw [this]; exact hr
    · rintro k (hk | rfl)
      · exact .inl hk
      · exact hbS
    · refine ⟨?_, ?_, ?_, by rw [hsz4]; omega, fun k hk hS => ?_⟩
      · show w3.os = _
        exact hg3.os.trans hg.os
      · show w3.tape = _
        exact hg3.tape.trans hg.tape
      · show w3.output = _
        exact hg3.output.trans hg.output
      · rw [hb4 k (fun e => hS (e ▸ h.self)), hb3 k (by omega) (fun e => hS (h.rowS k e)), hbelow k hk (fun e => hS (e ▸ h.mapS m rfl))]

theorem Pushed.row2 {W0 : World} {S : Nat → Prop} {a m : Nat} {v : Value} {l : List Tm} {ps : List (Int × Int)} {x : Tm} {w2 : World} (h : Pushed W0 S a m v l ps x w2) (q : Nat) : ((w2.drewN q).alloc (tc x)).ownsRow 0 54 2 v l.length (flat l) := by
  refine ⟨h.row.1, ?_⟩
  rcases h.row.2 with h0 | ⟨b', cap', cur, e0, hb0, hg0, rest⟩
  · exact .inl h0
  · exact .inr ⟨b', cap', cur, e0, hb0, (Below.heap_alloc (w2.drewN q) _ b' (Array.getElem?_eq_some_iff.1 hg0).1).trans hg0, rest⟩
theorem Pushed.news {W0 : World} {S : Nat → Prop} {a m : Nat} {v : Value} {l : List Tm} {ps : List (Int × Int)} {x : Tm} {w2 : World} (_h : Pushed W0 S a m v l ps x w2) (q : Nat) : ∀ (j : Nat) (u : Value), (tcells x)[j]? = some u → ((w2.drewN q).alloc (tc x)).cell? ((⟨w2.heap.size, 0, none⟩ : Addr).add j) = some u := fun j u hu => by
  have hadd : (⟨w2.heap.size, 0, none⟩ : Addr).add j = ⟨w2.heap.size, j, none⟩ := by unfold Addr.add; split <;> simp_all
  rw [hadd]
  exact cell_new rfl (by simpa [tcells] using hu)

/-- An append whose run is known, as one step of a region that draws. -/
theorem step_append_run {P : Program} {ops : Array Oper} {o : Oper} {a : Act} {w : World} {K : Act → World → Prop} {Q : Exit → Act → World → Prop} {E : Prop} (hg : o.guard = none) (s y : Operand) (t : TypeId)
    (hop : o.op = Op.call { callee := Callee.builtin Builtin.append, args := #[s, y], argTypes := #[t, t] }) (v u v' : Value) (w' : World) (hs : a.eval s = v) (hy : a.eval y = u)
    (hrun : Sem.run P (Builtin.append_ #[t, t] o.type #[v, u]) w = .ok v' w') (hK : K (a.put o.dst v') w') : if Region.wanted o (yielded ops a.tmps) = true then Oper.wp P o a w K Q else E := by
  have hw : Region.wanted o (yielded ops a.tmps) = true := by simp [Region.wanted, hg]
  rw [if_pos hw]
  unfold Oper.wp
  simp [execOp, hop, resolve, invoke, builtin, hs, hy, hrun, Result.andThen]
  exact hK

theorem assert54 (x : Tm) (w : World) : Sem.run Try.prog (Instr.typeAssert (.iface 54 (tval x)) 20 54 false) w = .ok (tval x) w := by kernel_rfl

theorem info_parts54 : ∃ i, Try.prog.info? 54 = some i ∧ i.zero = some (.agg #[.int .i64 0, .int .i64 0]) ∧ i.size = 2 ∧ i.bytes = 16 := ⟨_, rfl, rfl, rfl, rfl⟩

theorem QM.mapped {w : World} {S : Nat → Prop} {a : Nat} {v : Value} {l : List Tm} {ps : List (Int × Int)} (h : QM w S a v none l ps) :
    QM ((w.setCell ⟨a, 1, none⟩ (.map (some w.heap.size))).alloc (.map #[] 0)) (fun k => S k ∨ k = w.heap.size) a v (some w.heap.size) l ps ∧ Keeps S w ((w.setCell ⟨a, 1, none⟩ (.map (some w.heap.size))).alloc (.map #[] 0)) := by
  have hal := h.below a h.self
  have hsz : (w.setCell ⟨a, 1, none⟩ (.map (some w.heap.size))).heap.size = w.heap.size := by simp [World.setCell]
  have hb : ∀ k, k < w.heap.size → k ≠ a → ((w.setCell ⟨a, 1, none⟩ (.map (some w.heap.size))).alloc (.map #[] 0)).heap[k]? = w.heap[k]? := fun k hk hne => by
    rw [Below.heap_alloc _ _ k (by omega), Below.heap_setCell _ _ _ k hne]
  have e : ps = [] := h.map
  subst e
  refine ⟨⟨fun k hk => ?_, .inl h.self, ?_, ⟨h.row.1, ?_⟩, fun k hk => .inl (h.rowS k hk), ?_, fun b e => ?_, h.agree, h.few, h.rng⟩, rfl, rfl, rfl, by simp [hsz], fun k hk hS => hb k hk (fun e => hS (e ▸ h.self))⟩
  · rcases hk with hk | rfl
    · have := h.below k hk; simp [hsz]; omega
    · simp [hsz]
  · rw [Below.heap_alloc _ _ a (by omega)]
    simp [World.setCell, Array.getElem?_modify, h.cells]
  · rcases h.row.2 with h0 | ⟨b', cap', cur, e0, hb0, hg0, rest⟩
    · exact .inl h0
    · refine .inr ⟨b', cap', cur, e0, hb0, (hb b' (Array.getElem?_eq_some_iff.1 hg0).1 (fun e => ?_)).trans hg0, rest⟩
      subst e; rw [h.cells] at hg0; simp only [Option.some.injEq, Obj.cells.injEq] at hg0; exact absurd hg0.2.1 (by decide)
  · have := World.ownsMap_made (w.setCell ⟨a, 1, none⟩ (.map (some w.heap.size))) Try.prog 3 (plainElem (H := Unit) Try.prog 3)
    rw [hsz] at this
    exact this
  · cases e; exact .inr rfl

set_option maxHeartbeats 1600000 in
theorem push_some {w : World} {S : Nat → Prop} {a m : Nat} {v : Value} {l : List Tm} {ps : List (Int × Int)} (h : QM w S a v (some m) l ps) (x : Tm) (hx : ∀ y ∈ l, y.key ≠ x.key) (hr : I64 x.key) (hl : l.length < 1000) :
    Calls Try.prog 49 #[.pointer (some ⟨a, 0, none⟩), .iface 54 (tval x)] w fun e w' => e = .returned (.tuple #[]) ∧ ∃ S' v' ps', QM w' S' a v' (some m) (l ++ [x]) ps' ∧ (∀ k, S' k → S k ∨ w.heap.size ≤ k) ∧ (∀ k, S k → S' k) ∧ Keeps S w w' := by
  obtain ⟨w2, hp⟩ := push_fin h x hx hr hl
  obtain ⟨i0, hi0, hz0, hz1, hz2⟩ := info_parts54
  have hal := h.below a h.self
  have c1 := h.c1
  obtain ⟨oa, cap, rfl, _⟩ := h.shape
  have c1' : ∀ o, (w.alloc o).cell? ⟨a, 1, none⟩ = some (.map (some m)) := fun o => (World.cell?_of_block (a := ⟨a, 1, none⟩) (Below.heap_alloc _ _ a hal)).trans c1
  have c0' : ∀ o, (w.alloc o).cell? ⟨a, 0, none⟩ = some (.slice oa l.length cap) := fun o => (World.cell?_of_block (a := ⟨a, 0, none⟩) (Below.heap_alloc _ _ a hal)).trans h.c0
  have he := fun W r => run_eql_map_nil (P := Try.prog) W 47 3 3 r Try.underlying47
  have hta := assert54 x
  unfold tval at hta
  have hrun := hp.run
  unfold tc at hrun
  have a0 := hp.a0
  have a0' : ∀ o, (w2.alloc o).cell? ⟨a, 0, none⟩ = some (.slice oa l.length cap) := fun o => (World.cell?_of_block (a := ⟨a, 0, none⟩) (Below.heap_alloc _ _ a (by have := hp.size; omega))).trans a0
  have k0 := hp.k0
  have k1 := hp.k1
  have HP := hid hp
  clear hp h hx
  unfold tval
  go_enter Try.func49, Try.ntmps49
  go_wp2
  go_region
  go_wp2
  obtain ⟨v', w3, hrun3, hown3, hg3, hnil3, hat3⟩ := run_append_own_at ((w2.drewN 1).alloc (tc x)) 0 46 46 54 i0 _ 2 16 Try.underlying46 hi0 hz0 hz1 hz2 rfl (by decide) (.slice oa l.length cap) l.length (flat l)
    (HP.out.row2 1) ⟨w2.heap.size, 0, none⟩ 1 1 (tcells x) rfl (HP.out.news 1) (by simp [tcells, Value.oneCell']) (by unfold maxLen; omega) (by omega) (Nat.zero_le _)
  obtain ⟨b3, cap3, rfl⟩ : ∃ b3 cap3, v' = .slice (some ⟨b3, 0, none⟩) (l.length + 1) cap3 := by
    rcases hown3.2 with ⟨_, h0⟩ | ⟨b', cap', cur, e0, _⟩
    · omega
    · exact ⟨b', cap', e0⟩
  have HF := hid (HP.out.fin 1 _ w3 hown3 hg3 hat3)
  obtain ⟨q0, qf, _⟩ := HF.out
  unfold tc at hrun3
  clear hown3 hg3 hnil3 hat3 HP
  go_region_law (refine step_append_run rfl (.tmp 31) (.tmp 33) 46 rfl (.slice oa l.length cap) (.slice (some ⟨w2.heap.size, 0, none⟩) 1 1) _ w3 (by simp [Act.eval, Act.put]) (by simp [Act.eval, Act.put]) hrun3 ?_)
  all_goals
    go_end0
    obtain ⟨_, _, S', ps', r1, r2, r3, r4⟩ := HF.out
    exact ⟨rfl, S', _, ps', r1, r2, r3, r4⟩

set_option maxHeartbeats 1600000 in
theorem push_none {w : World} {S : Nat → Prop} {a : Nat} {v : Value} {l : List Tm} {ps : List (Int × Int)} (h : QM w S a v none l ps) (x : Tm) (hx : ∀ y ∈ l, y.key ≠ x.key) (hr : I64 x.key) (hl : l.length < 1000) :
    Calls Try.prog 49 #[.pointer (some ⟨a, 0, none⟩), .iface 54 (tval x)] w fun e w' => e = .returned (.tuple #[]) ∧ ∃ S' v' m' ps', QM w' S' a v' (some m') (l ++ [x]) ps' ∧ (∀ k, S' k → S k ∨ w.heap.size ≤ k) ∧ (∀ k, S k → S' k) ∧ Keeps S w w' := by
  obtain ⟨W0, hW⟩ : ∃ W0, W0 = (w.setCell ⟨a, 1, none⟩ (.map (some w.heap.size))).alloc (.map #[] 0) := ⟨_, rfl⟩
  have h0 : QM W0 (fun k => S k ∨ k = w.heap.size) a v (some w.heap.size) l ps ∧ Keeps S w W0 := hW ▸ h.mapped
  have hzW : W0.heap.size = w.heap.size + 1 := by rw [hW]; simp [World.setCell]
  obtain ⟨w2, hp⟩ := push_fin h0.1 x hx hr hl
  obtain ⟨i0, hi0, hz0, hz1, hz2⟩ := info_parts54
  have hal := h.below a h.self
  have c1 := h.c1
  have f1 := h.f1
  have cw1 := h0.1.c1
  have cw0 := h0.1.c0
  have hmm := @run_makeMap Try.prog
  obtain ⟨oa, cap, rfl, _⟩ := h.shape
  have hc1 : ∀ o, (w.alloc o).cell? ⟨a, 1, none⟩ = some (.map none) := fun o => (World.cell?_of_block (a := ⟨a, 1, none⟩) (Below.heap_alloc _ _ a hal)).trans c1
  have hf1 : ∀ o, (w.alloc o).frozen? ⟨a, 1, none⟩ = false := fun o => (World.frozen?_of_block (a := ⟨a, 1, none⟩) (Below.heap_alloc _ _ a hal)).trans f1
  have c1' : ∀ o, (W0.alloc o).cell? ⟨a, 1, none⟩ = some (.map (some w.heap.size)) := fun o => (World.cell?_of_block (a := ⟨a, 1, none⟩) (Below.heap_alloc _ _ a (by omega))).trans cw1
  have c0' : ∀ o, (W0.alloc o).cell? ⟨a, 0, none⟩ = some (.slice oa l.length cap) := fun o => (World.cell?_of_block (a := ⟨a, 0, none⟩) (Below.heap_alloc _ _ a (by omega))).trans cw0
  have HW := hid hW
  have HK := hid h0.2
  have he := fun W r => run_eql_map_nil (P := Try.prog) W 47 3 3 r Try.underlying47
  have hta := assert54 x
  unfold tval at hta
  have hrun := hp.run
  unfold tc at hrun
  have a0 := hp.a0
  have a0' : ∀ o, (w2.alloc o).cell? ⟨a, 0, none⟩ = some (.slice oa l.length cap) := fun o => (World.cell?_of_block (a := ⟨a, 0, none⟩) (Below.heap_alloc _ _ a (by have := hp.size; omega))).trans a0
  have k0 := hp.k0
  have k1 := hp.k1
  rw [hzW] at k0 k1
  have HP := hid hp
  clear hp h hx h0 hW
  unfold tval
  go_enter Try.func49, Try.ntmps49
  go_wp2
  rw [← HW.out]
  go_region
  go_wp2
  obtain ⟨v', w3, hrun3, hown3, hg3, hnil3, hat3⟩ := run_append_own_at ((w2.drewN 1).alloc (tc x)) 0 46 46 54 i0 _ 2 16 Try.underlying46 hi0 hz0 hz1 hz2 rfl (by decide) (.slice oa l.length cap) l.length (flat l)
    (HP.out.row2 1) ⟨w2.heap.size, 0, none⟩ 1 1 (tcells x) rfl (HP.out.news 1) (by simp [tcells, Value.oneCell']) (by unfold maxLen; omega) (by omega) (Nat.zero_le _)
  obtain ⟨b3, cap3, rfl⟩ : ∃ b3 cap3, v' = .slice (some ⟨b3, 0, none⟩) (l.length + 1) cap3 := by
    rcases hown3.2 with ⟨_, h0⟩ | ⟨b', cap', cur, e0, _⟩
    · omega
    · exact ⟨b', cap', e0⟩
  have HF := hid (HP.out.fin 1 _ w3 hown3 hg3 hat3)
  obtain ⟨q0, qf, _⟩ := HF.out
  unfold tc at hrun3
  clear hown3 hg3 hnil3 hat3 HP
  go_region_law (refine step_append_run rfl (.tmp 31) (.tmp 33) 46 rfl (.slice oa l.length cap) (.slice (some ⟨w2.heap.size, 0, none⟩) 1 1) _ w3 (by simp [Act.eval, Act.put]) (by simp [Act.eval, Act.put]) hrun3 ?_)
  all_goals
    go_end0
    obtain ⟨_, _, S', ps', r1, r2, r3, r4⟩ := HF.out
    refine ⟨rfl, S', _, _, ps', r1, fun k hk => ?_, fun k hk => r3 k (.inl hk), ⟨r4.os.trans HK.out.os, r4.tape.trans HK.out.tape, r4.output.trans HK.out.output, Nat.le_trans HK.out.size r4.size, fun k hk hS => ?_⟩⟩
    · rcases r2 k hk with (h1 | h1) | h1
      · exact .inl h1
      · exact .inr (by omega)
      · exact .inr (by omega)
    · exact (r4.block k (by omega) (fun h => h.elim hS (fun e => by omega))).trans (HK.out.block k hk hS)

theorem push_any {w : World} {S : Nat → Prop} {a : Nat} {v : Value} {mo : Option Nat} {l : List Tm} {ps : List (Int × Int)} (h : QM w S a v mo l ps) (x : Tm) (hx : ∀ y ∈ l, y.key ≠ x.key) (hr : I64 x.key) (hl : l.length < 1000) :
    Calls Try.prog 49 #[.pointer (some ⟨a, 0, none⟩), .iface 54 (tval x)] w fun e w' => e = .returned (.tuple #[]) ∧ ∃ S' v' mo' ps', QM w' S' a v' mo' (l ++ [x]) ps' ∧ (∀ k, S' k → S k ∨ w.heap.size ≤ k) ∧ (∀ k, S k → S' k) ∧ Keeps S w w' := by
  cases mo with
  | none => exact (push_none h x hx hr hl).mono fun e w' ⟨he, S', v', m', ps', r⟩ => ⟨he, S', v', some m', ps', r⟩
  | some m => exact (push_some h x hx hr hl).mono fun e w' ⟨he, S', v', ps', r⟩ => ⟨he, S', v', some m, ps', r⟩

end Go.Proofs.Ytohbnkghenlnoaa
