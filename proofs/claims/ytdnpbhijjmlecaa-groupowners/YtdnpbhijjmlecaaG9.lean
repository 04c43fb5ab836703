/- slices.Delete of one member. -/
import Derived.Test.YtdnpbhijjmlecaaG2
import Derived.Deep.RegionLaw
import Derived.Lib.BufferWrite
namespace Go.Proofs.Ytdnpbhijjmlecaa
open Go.RowKit Go.Maps
set_option maxRecDepth 100000
set_option linter.unusedSimpArgs false
set_option linter.unusedVariables false

theorem flatM_one : ∀ l : List Mb, ∀ u ∈ flatM l, u.oneCell' = true
  | [], u, hu => by simp [flatM] at hu
  | m :: r, u, hu => by
    simp only [flatM, List.mem_append, List.mem_cons, List.not_mem_nil, or_false] at hu
    rcases hu with (rfl | rfl) | hu
    · rfl
    · rfl
    · exact flatM_one r u hu
theorem flatM_take : ∀ (l : List Mb) (k : Nat), flatM (l.take k) = (flatM l).take (k * 2)
  | [], k => by simp [flatM]
  | m :: r, 0 => by simp [flatM]
  | m :: r, k + 1 => by
    rw [List.take_succ_cons, show (k + 1) * 2 = k * 2 + 2 by omega]
    simp only [flatM, List.cons_append, List.nil_append, List.take_succ_cons]
    rw [flatM_take r k]
theorem flatM_drop : ∀ (l : List Mb) (k : Nat), flatM (l.drop k) = (flatM l).drop (k * 2)
  | [], k => by simp [flatM]
  | m :: r, 0 => by simp [flatM]
  | m :: r, k + 1 => by
    rw [List.drop_succ_cons, show (k + 1) * 2 = k * 2 + 2 by omega]
    simp only [flatM, List.cons_append, List.nil_append, List.drop_succ_cons]
    rw [flatM_drop r k]
theorem info84 : ∃ i, Try.prog.info? 84 = some i ∧ i.zero = some (.agg #[.int .i64 0, .int .i64 0]) ∧ i.size = 2 ∧ i.bytes = 16 := ⟨_, rfl, rfl, rfl, rfl⟩
theorem setCells_blk {g : Nat} {T : TypeId} : ∀ (vs : List Value) (o : Nat) (w : World) (cur : Array Value), w.heap[g]? = some (.cells cur T) → o + vs.length ≤ cur.size →
    ∃ cur' : Array Value, (w.setCells g o vs).heap[g]? = some (.cells cur' T) ∧ cur'.size = cur.size ∧ (∀ j, j < o → cur'[j]? = cur[j]?) ∧ (∀ j, j < vs.length → cur'[o + j]? = vs[j]?)
  | [], o, w, cur, h, hl => ⟨cur, h, rfl, fun j _ => rfl, fun j hj => by simp at hj⟩
  | v :: r, o, w, cur, h, hl => by
    have hl' : o + 1 + r.length ≤ cur.size := by simp at hl; omega
    obtain ⟨cur', h1, h2, h3, h4⟩ := setCells_blk r (o + 1) (w.setCell ⟨g, o, none⟩ v) (cur.setIfInBounds o v) (set_box h) (by simpa using hl')
    refine ⟨cur', h1, by simpa using h2, fun j hj => ?_, fun j hj => ?_⟩
    · rw [h3 j (by omega), Array.getElem?_setIfInBounds_ne (by omega)]
    · cases j with
      | zero =>
        rw [Nat.add_zero, h3 o (by omega), Array.getElem?_setIfInBounds_self]
        simp; omega
      | succ j =>
        have := h4 j (by simp at hj; omega)
        rw [show o + (j + 1) = o + 1 + j by omega, this]
        rfl
theorem mrow_of {w : World} {g cap : Nat} {cur : Array Value} {l : List Mb} (h : w.heap[g]? = some (.cells cur 84)) (hs : cur.size = cap * 2) (hl : l.length ≤ cap) (hc : cap ≤ maxLen) (hu : ∀ (j : Nat) u, (flatM l)[j]? = some u → cur[j]? = some u) : w.ownsRow 0 84 2 (.slice (some ⟨g, 0, none⟩) l.length cap) l.length (flatM l) := by
  refine ⟨flatM_length l, .inr ⟨g, cap, cur, rfl, Nat.zero_le _, h, hl, hc, hs, ?_⟩⟩
  apply List.ext_getElem?
  intro j
  by_cases hj : j < l.length * 2
  · have h1 : j < (flatM l).length := by rw [flatM_length]; exact hj
    have h2 : (flatM l)[j]? = some (flatM l)[j] := List.getElem?_eq_getElem h1
    rw [List.getElem?_take, if_pos hj, h2, Array.getElem?_toList]
    exact hu j _ h2
  · rw [List.getElem?_take, if_neg hj]
    exact (List.getElem?_eq_none (by rw [flatM_length]; omega)).symm
theorem mrow_blk {w : World} {g n cap : Nat} {l : List Mb} (h : w.ownsRow 0 84 2 (.slice (some ⟨g, 0, none⟩) n cap) l.length (flatM l)) : ∃ cur : Array Value, w.heap[g]? = some (.cells cur 84) ∧ cur.size = cap * 2 ∧ l.length ≤ cap ∧ cap ≤ maxLen ∧ (∀ (j : Nat) u, (flatM l)[j]? = some u → cur[j]? = some u) := by
  obtain ⟨_, ⟨e, h0⟩ | ⟨g', cap', cur, e, hb, hg, hn, hc, hs, ht⟩⟩ := h
  · cases e
  · cases e
    refine ⟨cur, hg, hs, hn, hc, fun j u hu => ?_⟩
    rw [← ht, List.getElem?_take] at hu
    split at hu
    · rw [← Array.getElem?_toList]; exact hu
    · cases hu
def z84 : Value := .agg #[.int .i64 0, .int .i64 0]
theorem run_clear84 (w : World) (ty b o n c : Nat) (hn : 0 < n) (hc : ∀ j, j < n * 2 → (w.cell? ⟨b, o + j, none⟩).isSome = true) (hf : ∀ j, j < n * 2 → w.frozen? ⟨b, o + j, none⟩ = false) :
    ∃ zs : List Value, zs.length = n * 2 ∧ (Builtin.clear_ #[69] ty #[.slice (some ⟨b, o, none⟩) n c]).run Try.prog w = .ok (.tuple #[]) (w.setCells b o zs) := by
  have hv : ∀ w, (zeroValue 84).run Try.prog w = .ok z84 w := fun w => by kernel_rfl
  have hzl : (Builtin.zeroCells z84.cells n).toList.length = n * 2 := by simp [Builtin.zeroCells, z84, Value.cells]
  refine ⟨(Builtin.zeroCells z84.cells n).toList, hzl, ?_⟩
  have hone : ∀ v ∈ (Builtin.zeroCells z84.cells n).toList, v.oneCell' = true := by
    intro v hv
    simp only [Builtin.zeroCells, Array.toList_map, List.mem_map] at hv
    obtain ⟨i, _, rfl⟩ := hv
    have hm : i % z84.cells.size = 0 ∨ i % z84.cells.size = 1 := by
      have : z84.cells.size = 2 := rfl
      rw [this]
      omega
    rcases hm with h | h <;> rw [h] <;> rfl
  have hst := run_storeCells_cells (P := Try.prog) b o (Builtin.zeroCells z84.cells n).toList 0 w (by simpa [hzl] using hc) (by simpa [hzl] using hf) hone
  simp only [Nat.add_zero] at hst
  obtain ⟨m, rfl⟩ : ∃ m, n = m + 1 := ⟨n - 1, by omega⟩
  simp [Builtin.clear_, run_underlying Try.underlying69, hv, hst]
theorem setCells_grown (g : Nat) : ∀ (vs : List Value) (o : Nat) (w : World), w.grownBy (w.setCells g o vs) (some g)
  | [], o, w => ⟨rfl, rfl, rfl, Nat.le_refl _, fun k hk _ => rfl⟩
  | v :: r, o, w => (Lib.grownBy_setCell w g o v).trans (setCells_grown g r (o + 1) _)
/-- The row that stays, when one is taken out. -/
theorem delete_rows {w : World} {g0 n cap : Nat} {l : List Mb} (h : w.ownsRow 0 84 2 (.slice (some ⟨g0, 0, none⟩) n cap) l.length (flatM l)) (i : Nat) (hi : i < l.length) (ad : Addr) (c : Nat) (had : ∀ j u, (flatM (l.drop (i + 1)))[j]? = some u → w.cell? (ad.add j) = some u) :
    ∃ W2 W3 : World, (∀ ty, (Builtin.append_ #[69, 69] ty #[.slice (some ⟨g0, 0, none⟩) i cap, .slice (some ad) (l.length - (i + 1)) c]).run Try.prog w = .ok (.slice (some ⟨g0, 0, none⟩) (l.length - 1) cap) W2) ∧
      (∀ ty, (Builtin.clear_ #[69] ty #[.slice (some ⟨g0, (l.length - 1) * 2, none⟩) 1 (cap - (l.length - 1))]).run Try.prog W2 = .ok (.tuple #[]) W3) ∧
      W3.ownsRow 0 84 2 (.slice (some ⟨g0, 0, none⟩) (l.eraseIdx i).length cap) (l.eraseIdx i).length (flatM (l.eraseIdx i)) ∧ w.grownBy W3 (some g0) := by
  obtain ⟨cur, hg, hs, hl, hc, hu⟩ := mrow_blk h
  obtain ⟨i0, hi0, hz0, hz1, hz2⟩ := info84
  have hm : (l.drop (i + 1)).length = l.length - (i + 1) := by simp
  obtain ⟨m, hmd⟩ : ∃ m, m = l.drop (i + 1) := ⟨_, rfl⟩
  rw [← hmd] at had hm
  have hFl := flatM_length m
  have hcell : ∀ {W : World} {cu : Array Value}, W.heap[g0]? = some (.cells cu 84) → ∀ j, j < cu.size → (W.cell? ⟨g0, j, none⟩).isSome = true := fun {W cu} hW j hj => by
    rw [cell_blk hW j cu[j] (by simp [hj])]; rfl
  have happ : ∀ ty, (Builtin.append_ #[69, 69] ty #[.slice (some ⟨g0, 0, none⟩) i cap, .slice (some ad) m.length c]).run Try.prog w = .ok (.slice (some ⟨g0, 0, none⟩) (i + m.length) cap) (w.setCells g0 (0 + i * 2) (flatM m)) := fun ty => by
    have := run_append_room_cells (P := Try.prog) (w := w) 69 ty 84 i0 Try.underlying69 hi0 g0 0 i cap ad m.length c (flatM m) (by rw [hz1]; exact hFl) had (flatM_one m) (by omega) (by rw [hz1]; exact fun j hj => hcell hg _ (by omega)) (by rw [hz1]; exact fun j hj => frz_blk hg _)
    rw [hz1] at this
    exact this
  rw [hm] at happ
  rw [show i + (l.length - (i + 1)) = l.length - 1 by omega] at happ
  obtain ⟨cur2, h2, h2s, h2a, h2b⟩ := setCells_blk (flatM m) (0 + i * 2) w cur hg (by omega)
  obtain ⟨zs, hzl, hclr⟩ := run_clear84 (w.setCells g0 (0 + i * 2) (flatM m)) 0 g0 ((l.length - 1) * 2) 1 (cap - (l.length - 1)) (by omega) (fun j hj => hcell h2 _ (by omega)) (fun j hj => frz_blk h2 _)
  obtain ⟨cur3, h3, h3s, h3a, h3b⟩ := setCells_blk zs ((l.length - 1) * 2) (w.setCells g0 (0 + i * 2) (flatM m)) cur2 h2 (by omega)
  refine ⟨_, _, happ, fun ty => hclr, ?_, ?_⟩
  · have hln : (l.eraseIdx i).length = l.length - 1 := by rw [List.length_eraseIdx, if_pos hi]
    have hle : l.eraseIdx i = l.take i ++ m := by rw [List.eraseIdx_eq_take_drop_succ, hmd]
    refine mrow_of h3 (by omega) (by omega) hc ?_
    intro j u hj
    have hj3 : j < (l.length - 1) * 2 := by
      have := (List.getElem?_eq_some_iff.1 hj).1
      rw [flatM_length, hln] at this
      exact this
    rw [h3a j hj3]
    rw [hle, flatM_append, flatM_take] at hj
    have hlk : ((flatM l).take (i * 2)).length = i * 2 := by rw [List.length_take, flatM_length]; omega
    by_cases hji : j < i * 2
    · rw [h2a j (by omega)]
      rw [List.getElem?_append_left (by omega), List.getElem?_take, if_pos hji] at hj
      exact hu j u hj
    · rw [List.getElem?_append_right (by omega), hlk] at hj
      have := h2b (j - i * 2) (by omega)
      rw [show 0 + i * 2 + (j - i * 2) = j by omega] at this
      rw [this]
      exact hj
  · exact (setCells_grown g0 _ _ w).trans (setCells_grown g0 _ _ _)
theorem step_append_run {w : World} {ops : Array Oper} {o : Oper} {a : Act} {K : Act → World → Prop} {Q : Exit → Act → World → Prop} {E : Prop} (hgd : o.guard = none) (sl x : Operand)
    (ho : o.op = .call { callee := .builtin .append, args := #[sl, x], argTypes := #[69, 69] }) (v1 v2 v' : Value) (w' : World) (hs : a.eval sl = v1) (hx : a.eval x = v2)
    (hr : ∀ ty, (Builtin.append_ #[69, 69] ty #[v1, v2]).run Try.prog w = .ok v' w') (h : K (a.put o.dst v') w') :
    if Region.wanted o (yielded ops a.tmps) = true then Oper.wp Try.prog o a w K Q else E := by
  have hw : Region.wanted o (yielded ops a.tmps) = true := by simp [Region.wanted, hgd]
  rw [if_pos hw]
  have hr' := hr o.type
  unfold Oper.wp execOp
  simp only [ho, resolve, invoke, builtin, Sem.run_bind, Sem.run_pure, Result.andThen_ok, List.map_toArray, List.map_cons, List.map_nil, hs, hx, hr']
  exact h
set_option maxHeartbeats 1600000 in
theorem delete_any {w : World} {g cap : Nat} {l : List Mb} (h : w.ownsRow 0 84 2 (.slice (some ⟨g, 0, none⟩) l.length cap) l.length (flatM l)) (hf : l.length ≤ 1000) (i : Nat) (hi : i < l.length) :
    Calls Try.prog 71 #[.slice (some ⟨g, 0, none⟩) l.length cap, .int .i64 (i : Int), .int .i64 ((i : Int) + 1)] w fun e w' => e = .returned (.slice (some ⟨g, 0, none⟩) (l.eraseIdx i).length cap) ∧ w'.ownsRow 0 84 2 (.slice (some ⟨g, 0, none⟩) (l.eraseIdx i).length cap) (l.eraseIdx i).length (flatM (l.eraseIdx i)) ∧ w.grownBy w' (some g) := by
  obtain ⟨_, _, _, hcap, hcm, _⟩ : ∃ a c, Value.slice (some ⟨g, 0, none⟩) l.length cap = .slice a l.length c ∧ l.length ≤ cap ∧ cap ≤ maxLen ∧ True := by
    obtain ⟨cur, hg, hs, hl, hc, hu⟩ := mrow_blk h
    exact ⟨_, _, rfl, hl, hc, trivial⟩
  unfold maxLen at hcm
  have hln : (l.eraseIdx i).length = l.length - 1 := by rw [List.length_eraseIdx, if_pos hi]
  obtain ⟨cur, hg, hs, hl, hc, hu⟩ := mrow_blk h
  have hcap2 : l.length ≤ cap := hl
  have hnl : (l.length : Int) ≤ (cap : Int) := by omega
  have hil : (i : Int) + 1 ≤ (l.length : Int) := by omega
  have hlc : l.length ≤ 9223372036854775806 := by omega
  have hd : w.drew.ownsRow 0 84 2 (.slice (some ⟨g, 0, none⟩) l.length cap) l.length (flatM l) := row_kept h (fun k hk => rfl)
  have hwd : ∀ W3, w.drew.grownBy W3 (some g) → w.grownBy W3 (some g) := fun W3 k => ⟨k.os, k.tape, k.output, k.size, k.block⟩
  by_cases hlast : cap = i + 1
  · have hn : l.length = i + 1 := by omega
    obtain ⟨W2, W3, happ, hclr, he, hgw⟩ := delete_rows hd i hi ⟨g, 0, none⟩ 0 (fun j u hu => by rw [List.drop_eq_nil_of_le (by omega)] at hu; simp [flatM] at hu)
    rw [hln] at he ⊢
    have HE := hid he
    have HG := hid (hwd _ hgw)
    clear he hgw h hg hu hs hd hwd
    generalize flatM (l.eraseIdx i) = F at *
    clear hln
    generalize l.length = n at *
    subst hn
    subst hlast
    clear hil hcap hcap2 hnl hi hl
    simp only [Nat.sub_self, Nat.add_sub_cancel, Nat.add_sub_cancel_left] at happ hclr HE ⊢
    have HAPP := hid happ
    have hne : ¬ ((i : Int) = (i : Int) + 1) := by omega
    have hle : (i : Int) ≤ (i : Int) + 1 := by omega
    have hp1 : (0 : Int) ≤ (i : Int) + 1 := by omega
    clear happ
    go_enter Try.func71, Try.ntmps71
    go_wp2_with fail
    go_region_law (first
      | (refine step_append_run (by rfl) (.tmp 22) (.tmp 25) (by rfl) (.slice (some ⟨g, 0, none⟩) i (i + 1)) (.slice (some ⟨g, 0, none⟩) 0 0) _ W2 (by simp [Act.eval, Act.put]) (by simp [Act.eval, Act.put]) HAPP.out ?_)
      | fail)
    go_wp2_with fail
    go_ret
    exact ⟨rfl, HE.out, HG.out⟩
  · have hsp : i + 1 ≤ l.length := by omega
    have hadr : ∀ j u, (flatM (l.drop (i + 1)))[j]? = some u → w.drew.cell? ((⟨g, (i + 1) * 2, none⟩ : Addr).add j) = some u := fun j u hu2 => by
      rw [flatM_drop, List.getElem?_drop] at hu2
      have := hu _ u hu2
      rw [add_at]
      exact cell_blk (w := w.drew) hg _ _ this
    obtain ⟨W2, W3, happ, hclr, he, hgw⟩ := delete_rows hd i hi ⟨g, (i + 1) * 2, none⟩ (cap - (i + 1)) hadr
    rw [hln] at he ⊢
    have HE := hid he
    have HG := hid (hwd _ hgw)
    clear he hgw h hg hu hs hd hwd hadr
    generalize flatM (l.eraseIdx i) = F at *
    clear hln
    generalize l.length = n at *
    have HAPP := hid happ
    have hne : ¬ ((i : Int) = (i : Int) + 1) := by omega
    have hle : (i : Int) ≤ (i : Int) + 1 := by omega
    have hp1 : (0 : Int) ≤ (i : Int) + 1 := by omega
    have hic : (i : Int) ≤ (cap : Int) := by omega
    have hic1 : (i : Int) + 1 ≤ (cap : Int) := by omega
    have hnc1 : ((n - 1 : Nat) : Int) ≤ (n : Int) := by omega
    have hne2 : ¬ cap = n - 1 := by omega
    have hnn : n - (n - 1) = 1 := by omega
    have hcl2 : ¬ cap = i := by omega
    have hd1 : i + 1 - i = 1 := by omega
    clear happ
    go_enter Try.func71, Try.ntmps71
    go_wp2_with fail
    go_region_law (first
      | (refine step_append_run (by rfl) (.tmp 22) (.tmp 25) (by rfl) (.slice (some ⟨g, 0, none⟩) i cap) (.slice (some ⟨g, (i + 1) * 2, none⟩) (n - (i + 1)) (cap - (i + 1))) _ W2 (by simp [Act.eval, Act.put]) (by simp [Act.eval, Act.put]) HAPP.out ?_)
      | fail)
    go_wp2_with fail
    go_ret
    exact ⟨rfl, HE.out, HG.out⟩
end Go.Proofs.Ytdnpbhijjmlecaa
