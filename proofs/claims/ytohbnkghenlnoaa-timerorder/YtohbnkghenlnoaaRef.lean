/- The document's timers in memory: a row in order; what its functions do. -/
import Derived.Test.YtohbnkghenlnoaaShown
namespace Go.Proofs.Ytohbnkghenlnoaa
open Go.RowKit Go.Maps
set_option maxRecDepth 100000
set_option linter.unusedSimpArgs false
set_option linter.unusedVariables false

/-- A row of timers that is only read. -/
def RowR (w : World) (T : Nat → Prop) (v : Value) (s : List Tm) : Prop :=
  ∃ oa cap, v = .slice oa s.length cap ∧ s.length ≤ cap ∧ cap ≤ maxLen ∧ (0 < s.length → ∃ b off, oa = some ⟨b, off, none⟩ ∧ T b ∧ b < w.heap.size ∧ ∀ i, i < s.length → w.cell? ⟨b, off + i * 2, none⟩ = some (.int .i64 (g s i).key) ∧ w.cell? ⟨b, off + i * 2 + 1, none⟩ = some (.int .i64 (g s i).tick))

theorem RowR.kept {w w1 : World} {T T' : Nat → Prop} {v : Value} {s : List Tm} (h : RowR w T v s) (hT : ∀ k, T k → T' k) (hb : ∀ k, T k → w1.heap[k]? = w.heap[k]?) (hs : w.heap.size ≤ w1.heap.size) : RowR w1 T' v s := by
  obtain ⟨oa, cap, e, h1, h2, h3⟩ := h
  refine ⟨oa, cap, e, h1, h2, fun h0 => ?_⟩
  obtain ⟨b, off, e2, hTb, hlt, hc⟩ := h3 h0
  refine ⟨b, off, e2, hT b hTb, by omega, fun i hi => ?_⟩
  obtain ⟨c1, c2⟩ := hc i hi
  exact ⟨(World.cell?_of_block (a := ⟨b, off + i * 2, none⟩) (hb b hTb)).trans c1, (World.cell?_of_block (a := ⟨b, off + i * 2 + 1, none⟩) (hb b hTb)).trans c2⟩

theorem RowR.of_row {w : World} {T : Nat → Prop} {B n : Nat} {v : Value} {s : List Tm} (h : w.ownsRow B 44 2 v n (flat s)) (hn : n = s.length) (hT : ∀ b, v.ownBlock = some b → T b) : RowR w T v s := by
  subst hn
  rcases h.2 with ⟨e, h0⟩ | ⟨b, cap, cur, e, hb, hg, h1, h2, h3, h4⟩
  · exact ⟨none, 0, by rw [e, h0], by omega, Nat.zero_le _, fun h => by omega⟩
  · refine ⟨some ⟨b, 0, none⟩, cap, e, h1, h2, fun _ => ⟨b, 0, rfl, hT b (by rw [e]; rfl), (Array.getElem?_eq_some_iff.1 hg).1, fun i hi => ?_⟩⟩
    subst e
    obtain ⟨f0, f1⟩ := flat_at s i _ (g_some hi)
    rw [Nat.zero_add]
    exact ⟨(h.cellAt _ (by omega)).trans f0, (h.cellAt _ (by omega)).trans f1⟩

/-- The document's timers at block r. -/
structure RT (w : World) (T : Nat → Prop) (r : Nat) (v : Value) (s : List Tm) : Prop where
  below : ∀ k, T k → k < w.heap.size
  self : T r
  cells : w.heap[r]? = some (.cells #[v] 29 (0, 0))
  row : RowR w T v s
  few : s.length ≤ 1000

theorem RT.c0 {w : World} {T : Nat → Prop} {r : Nat} {v : Value} {s : List Tm} (h : RT w T r v s) : w.cell? ⟨r, 0, none⟩ = some v := by simp [World.cell?, h.cells]
theorem RT.f0 {w : World} {T : Nat → Prop} {r : Nat} {v : Value} {s : List Tm} (h : RT w T r v s) : w.frozen? ⟨r, 0, none⟩ = false := by simp [World.frozen?, h.cells]
theorem RT.kept {w w1 : World} {T : Nat → Prop} {r : Nat} {v : Value} {s : List Tm} (h : RT w T r v s) (hb : ∀ k, T k → w1.heap[k]? = w.heap[k]?) (hs : w.heap.size ≤ w1.heap.size) : RT w1 T r v s :=
  ⟨fun k hk => Nat.lt_of_lt_of_le (h.below k hk) hs, h.self, (hb r h.self).trans h.cells, h.row.kept (fun _ hk => hk) hb hs, h.few⟩
theorem RT.under {w w1 : World} {T : Nat → Prop} {r : Nat} {v : Value} {s : List Tm} (h : RT w T r v s) (hb : Below w.heap.size w w1) : RT w1 T r v s := h.kept (fun k hk => hb.block k (h.below k hk)) hb.size

def RAfter (T : Nat → Prop) (w w' : World) (r : Nat) (s : List Tm) : Prop := ∃ T' v', RT w' T' r v' s ∧ (∀ k, T' k → T k ∨ w.heap.size ≤ k) ∧ (∀ k, T k → T' k) ∧ Keeps T w w'

theorem RT.same {w w1 : World} {T : Nat → Prop} {r : Nat} {v : Value} {s : List Tm} (h : RT w T r v s) (hb : Below w.heap.size w w1) : RAfter T w w1 r s := ⟨T, v, h.under hb, fun k hk => .inl hk, fun k hk => hk, .of_below hb⟩

/-- A new row is stored as the timers'. -/
theorem RT.stored {w w1 : World} {T : Nat → Prop} {r : Nat} {v v' : Value} {s s' : List Tm} (h : RT w T r v s) (hb : Below w.heap.size w w1) {n : Nat} (hown : w1.ownsRow w.heap.size 44 2 v' n (flat s')) (hn : n = s'.length) (hl : s'.length ≤ 1000) :
    RAfter T w (w1.setCell ⟨r, 0, none⟩ v') r s' := by
  have hrl := h.below r h.self
  have hsz : (w1.setCell ⟨r, 0, none⟩ v').heap.size = w1.heap.size := by simp [World.setCell]
  have hbk : ∀ k, k ≠ r → (w1.setCell ⟨r, 0, none⟩ v').heap[k]? = w1.heap[k]? := fun k hk => Below.heap_setCell _ _ _ k hk
  have hc1 : w1.heap[r]? = some (.cells #[v] 29 (0, 0)) := (hb.block r hrl).trans h.cells
  have hvb : ∀ b, v'.ownBlock = some b → w.heap.size ≤ b ∧ b < w1.heap.size := fun b hb' => by
    rcases hown.2 with ⟨e, _⟩ | ⟨b2, cap, cur, e, hb0, hg, _⟩
    · rw [e] at hb'; cases hb'
    · rw [e] at hb'
      have : b2 = b := by simpa [Value.ownBlock] using hb'
      subst this
      exact ⟨hb0, (Array.getElem?_eq_some_iff.1 hg).1⟩
  refine ⟨fun k => T k ∨ v'.ownBlock = some k, v', ⟨fun k hk => ?_, .inl h.self, ?_, ?_, hl⟩, fun k hk => ?_, fun k hk => .inl hk, ⟨hb.os, hb.tape, hb.output, by rw [hsz]; exact hb.size, fun k hk hT => ?_⟩⟩
  · rw [hsz]
    rcases hk with hk | hk
    · exact Nat.lt_of_lt_of_le (h.below k hk) hb.size
    · exact (hvb k hk).2
  · simp [World.setCell, Array.getElem?_modify, hc1]
  · have hr := RowR.of_row (T := fun k => v'.ownBlock = some k) hown hn (fun b e => e)
    refine hr.kept (fun k hk => .inr hk) (fun k hk => hbk k ?_) (by rw [hsz]; exact Nat.le_refl _)
    have := hvb k hk
    omega
  · rcases hk with hk | hk
    · exact .inl hk
    · exact .inr (hvb k hk).1
  · exact (hbk k (fun e => hT (e ▸ h.self))).trans (hb.block k hk)

set_option maxHeartbeats 800000 in
theorem before_any (x y : Tm) (w : World) : Calls Try.prog 24 #[tval x, tval y] w fun e w' => e = .returned (.bool (bef x y)) ∧ Below w.heap.size w w' := by
  unfold tval
  cases hb : bef x y with
  | true =>
    rw [bef_iff] at hb
    rcases hb with h1 | ⟨h1, h2⟩
    · go_enter Try.func24, Try.ntmps24
      go_wp2
      go_ret
      exact ⟨rfl, ((Below.refl _ w).alloc (Nat.le_refl _) _).alloc (by simp) _⟩
    · have h3 : ¬ x.tick < y.tick := by omega
      go_enter Try.func24, Try.ntmps24
      go_wp2
      go_ret
      exact ⟨rfl, ((Below.refl _ w).alloc (Nat.le_refl _) _).alloc (by simp) _⟩
  | false =>
    rw [bef_false] at hb
    have h3 : ¬ x.tick < y.tick := by omega
    by_cases h4 : x.tick = y.tick
    · have h5 : ¬ x.key < y.key := by omega
      go_enter Try.func24, Try.ntmps24
      go_wp2
      go_ret
      exact ⟨rfl, ((Below.refl _ w).alloc (Nat.le_refl _) _).alloc (by simp) _⟩
    · go_enter Try.func24, Try.ntmps24
      go_wp2
      go_ret
      exact ⟨rfl, ((Below.refl _ w).alloc (Nat.le_refl _) _).alloc (by simp) _⟩

theorem rnext_any {w : World} {T : Nat → Prop} {r : Nat} {v : Value} {s : List Tm} (h : RT w T r v s) :
    Calls Try.prog 20 #[.pointer (some ⟨r, 0, none⟩)] w fun e w' => e = .returned (.int .i64 (nextL s)) ∧ w' = w := by
  have c0 := h.c0
  obtain ⟨oa, cap, rfl, h1, h2, h3⟩ := h.row
  cases s with
  | nil =>
    clear h h3
    go_enter Try.func20, Try.ntmps20
    go_wp2
    go_ret
    exact ⟨rfl, rfl⟩
  | cons x s =>
    obtain ⟨b, off, rfl, _, _, hc⟩ := h3 (by simp)
    have hcx := (hc 0 (by simp)).2
    have hcx' : w.cell? ⟨b, off + 1, none⟩ = some (.int .i64 x.tick) := by simpa [g] using hcx
    have hz : ¬ (((x :: s).length : Nat) : Int) = 0 := by rw [List.length_cons]; omega
    have hp : (0 : Int) < (((x :: s).length : Nat) : Int) := by rw [List.length_cons]; omega
    clear h h3 hc hcx
    generalize (x :: s).length = n at *
    go_enter Try.func20, Try.ntmps20
    go_wp2
    go_ret
    exact ⟨rfl, rfl⟩

set_option maxHeartbeats 800000 in
theorem rat_any {w : World} {T : Nat → Prop} {r : Nat} {v : Value} {s : List Tm} (h : RT w T r v s) (hk : Keys s) (k : Int) :
    Calls Try.prog 17 #[.pointer (some ⟨r, 0, none⟩), .int .i64 k] w fun e w' => e = .returned (.int .i64 (atL s k)) ∧ w' = w := by
  have c0 := h.c0
  have hfew := h.few
  obtain ⟨oa, cap, rfl, h1, h2, h3⟩ := h.row
  have H3 := hid h3
  have HK := hid hk
  clear h h3 hk
  go_enter Try.func17, Try.ntmps17
  go_wp2
  go_loop [5] (fun i0 => ∃ i : Nat, i ≤ s.length ∧ i0 = .int .i64 (i : Int) ∧ Hid (∀ j, j < i → (g s j).key ≠ k)) (fun i0 => s.length - (intOf i0).toNat)
  case atStart => exact ⟨0, Nat.zero_le _, rfl, fun j hj => by omega⟩
  case round =>
    obtain ⟨i, hi, rfl, HI⟩ := hrel
    by_cases hlt : i < s.length
    · have hltz : (i : Int) < (s.length : Int) := by omega
      obtain ⟨b, off, rfl, _, _, hc⟩ := H3.out (by omega)
      obtain ⟨p0, p1⟩ := hc i hlt
      by_cases he : (g s i).key = k
      · have HF : Hid (atL s k = (g s i).tick) := by show _ = _; rw [← he]; exact atL_mem HK.out (g_mem hlt)
        generalize g s i = x at *
        clear hc HI
        go_wp2
        go_ret
        exact ⟨ret_int HF.out.symm, rfl⟩
      · have HN : Hid (∀ j, j < i + 1 → (g s j).key ≠ k) := fun j hj => by
          by_cases e : j = i
          · rw [e]; exact he
          · exact HI.out j (by omega)
        generalize g s i = x at *
        clear hc HI
        go_wp2
        go_round
        case rel => exact ⟨i + 1, by omega, by go_num, HN⟩
        case measure => simp [intOf]; omega
    · have hltz : ¬ (i : Int) < (s.length : Int) := by omega
      have HF : Hid (atL s k = -1) := atL_none (fun x hx => by
        obtain ⟨j, hj, rfl⟩ := List.getElem_of_mem hx
        have := HI.out j (by omega)
        rwa [g_eq (List.getElem?_eq_getElem hj)] at this)
      go_wp2
      go_ret
      exact ⟨ret_int HF.out.symm, rfl⟩

theorem info_parts44 : ∃ i, Try.prog.info? 44 = some i ∧ i.zero = some (.agg #[.int .i64 0, .int .i64 0]) ∧ i.size = 2 ∧ i.bytes = 16 := ⟨_, rfl, rfl, rfl, rfl⟩

theorem two_new {w1 : World} {x : Tm} {t : TypeId} {b : Nat} (hb : b = w1.heap.size) : ∀ (j : Nat) (u : Value), (tcells x)[j]? = some u → (w1.alloc (.cells #[.int .i64 x.key, .int .i64 x.tick] t)).cell? ((⟨b, 0, none⟩ : Addr).add j) = some u := fun j u hu => by
  have hadd : (⟨b, 0, none⟩ : Addr).add j = ⟨b, j, none⟩ := by unfold Addr.add; split <;> simp_all
  rw [hadd]
  exact cell_new hb (by simpa [tcells] using hu)

/-- A row of one's own, grown by an append: what was there before B is as it was. -/
theorem grown_own {w wr w2 : World} {e : TypeId} {size n m : Nat} {v v' : Value} {xs ys : List Value} {o : Obj} (hb : Below w.heap.size w wr) (h : wr.ownsRow w.heap.size e size v n xs) (hg : (wr.alloc o).grownBy w2 v.ownBlock) : Below w.heap.size w w2 :=
  (hb.alloc hb.size o).grown hg (by simp; exact Nat.le_succ_of_le hb.size) (fun k hk => by
    rcases h.2 with ⟨e0, _⟩ | ⟨b', cap', cur, e0, hb0, _⟩
    · rw [e0] at hk; cases hk
    · rw [e0] at hk
      have : b' = k := by simpa [Value.ownBlock] using hk
      omega)
theorem row_alloc {w wr : World} {e : TypeId} {size n : Nat} {v : Value} {xs : List Value} (h : wr.ownsRow w.heap.size e size v n xs) (o : Obj) : (wr.alloc o).ownsRow w.heap.size e size v n xs := by
  refine ⟨h.1, ?_⟩
  rcases h.2 with h0 | ⟨b', cap', cur, e0, hb0, hg0, rest⟩
  · exact .inl h0
  · exact .inr ⟨b', cap', cur, e0, hb0, (Below.heap_alloc _ o b' (Array.getElem?_eq_some_iff.1 hg0).1).trans hg0, rest⟩

theorem del_take_succ {s : List Tm} {k : Int} {i : Nat} (hi : i < s.length) : del (s.take (i + 1)) k = if (g s i).key = k then del (s.take i) k else del (s.take i) k ++ [g s i] := by
  rw [List.take_add_one, g_some hi]
  unfold del
  rw [Option.toList_some, List.filter_append]
  by_cases e : (g s i).key = k
  · simp [e]
  · simp [e]

set_option maxHeartbeats 1600000 in
theorem without_any {w : World} {T : Nat → Prop} {r : Nat} {v : Value} {s : List Tm} (h : RT w T r v s) (k : Int) :
    Calls Try.prog 23 #[.pointer (some ⟨r, 0, none⟩), .int .i64 k] w fun e w' => ∃ v', e = .returned v' ∧ Below w.heap.size w w' ∧ w'.ownsRow w.heap.size 44 2 v' (del s k).length (flat (del s k)) := by
  have hfew := h.few
  have hrl := h.below r h.self
  obtain ⟨i0, hi0, hz0, hz1, hz2⟩ := info_parts44
  obtain ⟨oa, cap, rfl, h1, h2, h3⟩ := h.row
  have HC0 : Hid (∀ W, Below w.heap.size w W → W.cell? ⟨r, 0, none⟩ = some (.slice oa s.length cap)) := fun W hW => (hW.cell hrl).trans h.c0
  have H3 : Hid (0 < s.length → ∃ b off, oa = some ⟨b, off, none⟩ ∧ ∀ W, Below w.heap.size w W → ∀ i, i < s.length → W.cell? ⟨b, off + i * 2, none⟩ = some (.int .i64 (g s i).key) ∧ W.cell? ⟨b, off + i * 2 + 1, none⟩ = some (.int .i64 (g s i).tick)) := fun h0 => by
    obtain ⟨b, off, e, _, hlt, hc⟩ := h3 h0
    exact ⟨b, off, e, fun W hW i hi => ⟨(hW.cell hlt).trans (hc i hi).1, (hW.cell hlt).trans (hc i hi).2⟩⟩
  clear h h3
  go_enter Try.func23, Try.ntmps23
  go_wp2
  go_loopg [5, 6] s.length (fun kx s5 si wr => ∃ (i : Nat) (sv : Value), i ≤ s.length ∧ s.length - i ≤ kx ∧ si = .int .i64 (i : Int) ∧ sv = s5 ∧ Hid (Below w.heap.size w wr ∧ wr.ownsRow w.heap.size 44 2 sv (del (s.take i) k).length (flat (del (s.take i) k))))
  case atStart => exact ⟨0, _, Nat.zero_le _, by omega, rfl, rfl, .refl _ _, ⟨rfl, .inl ⟨rfl, rfl⟩⟩⟩
  case round =>
    obtain ⟨i, sv, hi, hkx, rfl, rfl, HI⟩ := hrel
    have c0 := HC0.out _ HI.out.1
    by_cases hlt : i < s.length
    · have hltz : (i : Int) < (s.length : Int) := by omega
      obtain ⟨b, off, rfl, hc⟩ := H3.out (by omega)
      obtain ⟨p0, p1⟩ := hc _ HI.out.1 i hlt
      have hds := del_take_succ (k := k) hlt
      have hdl : (del (s.take i) k).length ≤ 1000 := Nat.le_trans (List.length_filter_le _ _) (by simp; omega)
      by_cases he : (g s i).key = k
      · rw [if_pos he] at hds
        have HN : Hid (Below w.heap.size w wr ∧ wr.ownsRow w.heap.size 44 2 sv (del (s.take (i + 1)) k).length (flat (del (s.take (i + 1)) k))) := by rw [hds]; exact HI
        generalize g s i = x at *
        clear hc HI hds
        go_wp2
        go_roundg (s.length - (i + 1))
        case measure => omega
        case rel => exact ⟨i + 1, _, by omega, Nat.le_refl _, by go_num, rfl, HN⟩
      · rw [if_neg he] at hds
        have hrow := hid (row_alloc HI.out.2 (.cells #[.int .i64 (g s i).key, .int .i64 (g s i).tick] 44))
        have hsz := HI.out.1.size
        have HG : Hid (∀ v' w2, w2.ownsRow w.heap.size 44 2 v' ((del (s.take i) k).length + 1) (flat (del (s.take i) k) ++ tcells (g s i)) → (wr.alloc (.cells #[.int .i64 (g s i).key, .int .i64 (g s i).tick] 44)).grownBy w2 sv.ownBlock →
            Below w.heap.size w w2 ∧ w2.ownsRow w.heap.size 44 2 v' (del (s.take (i + 1)) k).length (flat (del (s.take (i + 1)) k))) := fun v' w2 hown hg => by
          refine ⟨grown_own (xs := flat (del (s.take i) k)) (ys := []) (m := 0) (v' := v') HI.out.1 HI.out.2 hg, ?_⟩
          rw [hds, flat_append, List.length_append]
          exact hown
        generalize g s i = x at *
        clear hc HI hds
        generalize (del (s.take i) k).length = dn at *
        go_wp2_with (at_builtin; refine wpList_append_own _ rfl _ _ 27 rfl w.heap.size 44 i0 _ 2 16 Try.underlying27 hi0 hz0 hz1 hz2 rfl (by decide) _ dn (flat (del (s.take i) k)) rfl hrow.out ⟨wr.heap.size, 0, none⟩ 1 1 (tcells x) rfl rfl (two_new rfl) (by simp [tcells, Value.oneCell']) (by unfold maxLen; omega) (by omega) (by simp; omega) ?_; intro v' w2 hown2 hg2 _; have HN := hid (HG.out v' w2 hown2 hg2); clear hown2 hg2)
        go_roundg (s.length - (i + 1))
        case measure => omega
        case rel => exact ⟨i + 1, _, by omega, Nat.le_refl _, by go_num, rfl, HN⟩
    · have hltz : ¬ (i : Int) < (s.length : Int) := by omega
      have hks : i = s.length := by omega
      have HF : Hid (Below w.heap.size w wr ∧ wr.ownsRow w.heap.size 44 2 sv (del s k).length (flat (del s k))) := by
        have := HI.out
        rw [hks, List.take_length] at this
        exact this
      go_wp2
      go_ret
      exact ⟨_, rfl, HF.out.1, HF.out.2⟩

end Go.Proofs.Ytohbnkghenlnoaa
