/- Clone, From, behind. -/
import Derived.Test.YtclldpecbocclaaGreatK13
import Derived.Lib.SliceRun
namespace Go.Proofs.YtclldpecbocclaaGreat
open Go.RowKit Go.Maps
set_option maxRecDepth 100000
set_option linter.unusedSimpArgs false
set_option linter.unusedVariables false

theorem ownsRow_low {w : World} {B T z n : Nat} {v : Value} {xs : List Value} (h : w.ownsRow B T z v n xs) : w.ownsRow 0 T z v n xs := by
  obtain ⟨h1, h2⟩ := h
  rcases h2 with h2 | ⟨g, cap, cur, e, hB, r⟩
  · exact ⟨h1, .inl h2⟩
  · exact ⟨h1, .inr ⟨g, cap, cur, e, Nat.zero_le _, r⟩⟩
set_option maxHeartbeats 800000 in
theorem cloneE_any {w : World} {g o : Nat} {l : List Et} (h : EAt w (some ⟨g, o, none⟩) l) (hlen : l.length ≤ 3000000) (c : Nat) :
    Calls Tryz.prog 39 #[.slice (some ⟨g, o, none⟩) l.length c] w fun e w' => ∃ v', e = .returned v' ∧ EL w' v' l ∧ (∀ k, v'.ownBlock = some k → w.heap.size ≤ k) ∧ Below w.heap.size w w' := by
  obtain ⟨i0, hi0, hz0, hz1, hz2⟩ := info38
  have HNIL := hid (fun W : World => Lib.run_eql_slice_nil (P := Tryz.prog) W 31 37 (some ⟨g, o, none⟩) l.length c 0 0 Tryz.underlying31)
  have hnil := fun W : World => HNIL.out W
  have HROW : Hid ((w.alloc (.cells #[] 37)).ownsRow w.heap.size 37 3 (.slice (some ⟨w.heap.size, 0, none⟩) 0 0) 0 []) := ⟨rfl, .inr ⟨w.heap.size, 0, #[], rfl, Nat.le_refl _, heap_alloc_new _ _, Nat.le_refl _, Nat.zero_le _, rfl, rfl⟩⟩
  have hb0 : Below w.heap.size w (w.alloc (.cells #[] 37)) := (Below.refl _ _).alloc (Nat.le_refl _) _
  have HNW : Hid (∀ j u, (flatT l)[j]? = some u → (w.alloc (.cells #[] 37)).cell? ((⟨g, o, none⟩ : Addr).add j) = some u) := fun j u hu => by
    have hl : 0 < l.length := by
      have := (List.getElem?_eq_some_iff.1 hu).1
      rw [flatT_length] at this
      omega
    obtain ⟨g', o', e, hg, hc⟩ := (h.under hb0) hl
    cases e
    have e2 : (⟨g, o, none⟩ : Addr).add j = ⟨g, o + j, none⟩ := by unfold Addr.add; split <;> simp_all
    rw [e2]
    exact hc j u hu
  have HON := hid (flatT_one l)
  have HLn : Hid ((flatT l).length = l.length * 3) := flatT_length l
  have HB0 := hid hb0
  clear h hb0 HNIL
  generalize hF : flatT l = F at *
  have HF := hid hF
  clear hF
  go_enter Tryz.func39, Tryz.ntmps39
  go_wp2_with (at_builtin; refine wpList_append_own_at _ rfl _ _ 31 rfl w.heap.size 37 i0 _ 3 32 Tryz.underlying31 hi0 hz0 hz1 hz2 rfl (by decide) _ 0 [] rfl HROW.out ⟨g, o, none⟩ l.length c F rfl HLn.out HNW.out HON.out (by unfold maxLen; omega) (by omega) (by simp) ?_; intro v' w2 hown2 hg2 _ hat)
  go_ret
  refine ⟨v', rfl, ?_, fun k hk => ?_, HB0.out.grown hg2 HB0.out.size (fun j hj => by cases hj; exact Nat.le_refl _)⟩
  · rw [Nat.zero_add, List.nil_append] at hown2
    unfold EL
    rw [HF.out]
    exact ownsRow_low hown2
  · exact (World.ownsRow.lt hown2 k hk).1
set_option maxHeartbeats 400000 in
theorem cloneE_nil (w : World) : Calls Tryz.prog 39 #[.slice none 0 0] w fun e w' => e = .returned (.slice none 0 0) ∧ w' = w := by
  have HNIL := hid (fun W : World => Lib.run_eql_slice_nil (P := Tryz.prog) W 31 37 none 0 0 0 0 Tryz.underlying31)
  have hnil := fun W : World => HNIL.out W
  clear HNIL
  go_enter Tryz.func39, Tryz.ntmps39
  go_wp2_with fail
  go_ret
  exact ⟨rfl, rfl⟩
/-- A row of entries' clone, whatever the row. -/
theorem clone_slice {w : World} {oa : Option Addr} {l : List Et} (h : EAt w oa l) (hz : (∃ g o, oa = some ⟨g, o, none⟩) ∨ (oa = none ∧ l = [])) (hlen : l.length ≤ 3000000) (c : Nat) (hc : oa = none → c = 0) :
    Calls Tryz.prog 39 #[.slice oa l.length c] w fun e w' => ∃ v', e = .returned v' ∧ EL w' v' l ∧ (∀ k, v'.ownBlock = some k → w.heap.size ≤ k) ∧ Below w.heap.size w w' := by
  rcases hz with ⟨g, o, rfl⟩ | ⟨rfl, rfl⟩
  · exact cloneE_any h hlen c
  · rw [hc rfl]
    exact (cloneE_nil w).mono fun e w' ⟨e1, e2⟩ => by
      subst e2
      exact ⟨_, e1, EL.nil _, (by intro k hk; cases hk), Below.refl _ _⟩
/-- Where behind begins to take. -/
def behindN (idx : Int) : List Et → Nat
  | [] => 0
  | x :: r => if x.i ≤ idx then behindN idx r + 1 else 0
theorem behindN_le (idx : Int) : ∀ l : List Et, behindN idx l ≤ l.length
  | [] => Nat.le_refl _
  | x :: r => by unfold behindN; have := behindN_le idx r; split <;> simp; omega
theorem behindN_step (idx : Int) (l : List Et) (k : Nat) (x : Et) (hx : l[k]? = some x) : behindN idx (l.drop k) = if x.i ≤ idx then behindN idx (l.drop (k + 1)) + 1 else 0 := by
  have hk : k < l.length := (List.getElem?_eq_some_iff.1 hx).1
  have e : l.drop k = x :: l.drop (k + 1) := by
    rw [List.drop_eq_getElem_cons hk]
    congr 1
    exact (List.getElem?_eq_some_iff.1 hx).2
  rw [e]
  rfl
set_option maxHeartbeats 1600000 in
theorem behind_any {w : World} {g : Nat} {n cap : Nat} {l : List Et} (h : EAt w (some ⟨g, 0, none⟩) l) (hlen : l.length ≤ 3000000) (hn : n = l.length) (hc : l.length ≤ cap) (hcm : cap ≤ maxLen) (idx : Int) :
    Calls Tryz.prog 54 #[.slice (some ⟨g, 0, none⟩) n cap, .int .i64 idx] w fun e w' => ∃ v', e = .returned v' ∧ EL w' v' (l.drop (behindN idx l)) ∧ (∀ k, v'.ownBlock = some k → w.heap.size ≤ k) ∧ Below w.heap.size w w' := by
  subst hn
  have HE := hid h
  unfold maxLen at hcm
  clear h
  go_enter Tryz.func54, Tryz.ntmps54
  go_wp2_with fail
  go_loopg [0] l.length (fun kx s0 wr => ∃ k o : Nat, k ≤ l.length ∧ l.length - k ≤ kx ∧ s0 = .slice (some ⟨g, o, none⟩) (l.length - k) (cap - k) ∧ Hid ((k < l.length → o = k * 3) ∧ Below w.heap.size w wr ∧ behindN idx l = k + behindN idx (l.drop k)))
  case atStart => exact ⟨0, 0, by omega, by omega, rfl, fun _ => rfl, Below.refl _ _, by simp⟩
  case round =>
    obtain ⟨k, o, hk, hkx, rfl, HI⟩ := hrel
    have hD : EAt wr (some ⟨g, o, none⟩) (l.drop k) := fun h0 => by
      have h1 := ((HE.out.under HI.out.2.1).drop k) h0
      rw [Nat.zero_add] at h1
      rw [HI.out.1 (by rw [List.length_drop] at h0; omega)]
      exact h1
    have HC : Hid (Calls Tryz.prog 39 #[.slice (some ⟨g, o, none⟩) (l.length - k) (cap - k)] wr fun e w' => ∃ v', e = .returned v' ∧ EL w' v' (l.drop k) ∧ (∀ k, v'.ownBlock = some k → wr.heap.size ≤ k) ∧ Below wr.heap.size wr w') := by
      have := cloneE_any hD (by rw [List.length_drop]; omega) (cap - k)
      rw [List.length_drop] at this
      exact this
    have HB := hid HI.out.2.1
    by_cases hlt : k < l.length
    · have hlt' : (0 : Int) < ((l.length - k : Nat) : Int) := by omega
      have hlt2 : 0 < l.length - k := by omega
      have hx : l[k]? = some l[k] := List.getElem?_eq_getElem hlt
      have hx0 : (l.drop k)[0]? = some l[k] := by rw [List.getElem?_drop]; exact hx
      obtain ⟨_, r1, _⟩ := hD.at_ 0 _ hx0
      simp only [Nat.zero_mul, Nat.add_zero] at r1
      have HS : Hid (behindN idx l = k + if l[k].i ≤ idx then behindN idx (l.drop (k + 1)) + 1 else 0) := by
        show _ = _
        rw [HI.out.2.2, behindN_step idx l k _ hx]
      have HO : Hid (o = k * 3) := HI.out.1 hlt
      clear hx hx0 hD HI
      generalize l[k] = x at *
      have hone : (1 : Int) ≤ ((cap - k : Nat) : Int) := by omega
      have hone2 : (1 : Int) ≤ ((l.length - k : Nat) : Int) := by omega
      by_cases hle : x.i ≤ idx
      · rw [if_pos hle] at HS
        go_wp2_with fail
        all_goals
          go_roundg (l.length - (k + 1))
          case measure => omega
          case rel =>
            first
            | (refine ⟨k + 1, o + 3, by omega, Nat.le_refl _, ?_, fun _ => by have := HO.out; omega, HB.out, by rw [HS.out]; omega⟩
               rw [show l.length - (k + 1) = l.length - k - 1 by omega, show cap - (k + 1) = cap - k - 1 by omega]
               done)
            | (refine ⟨k + 1, o, by omega, Nat.le_refl _, ?_, fun _ => by omega, HB.out, by rw [HS.out]; omega⟩
               rw [show l.length - (k + 1) = l.length - k - 1 by omega, show cap - (k + 1) = 0 by omega])
      · rw [if_neg hle, Nat.add_zero] at HS
        go_wp2_with (go_at_call 39; refine HC.out.mono ?_; rintro e w2 ⟨v2, rfl, hv2, ho2, hb2⟩; obtain ⟨oa2, cap2, he2, _⟩ := hv2.shape; rw [List.length_drop] at he2; subst he2; have HV := hid hv2; have HO2 := hid ho2; have HB2 := hid hb2; clear hv2 ho2 hb2)
        go_ret
        exact ⟨_, rfl, by rw [HS.out]; exact HV.out, fun z hz => Nat.le_trans HB.out.size (HO2.out z hz), HB.out.trans (HB2.out.mono HB.out.size)⟩
    · have hlt' : ¬ (0 : Int) < ((l.length - k : Nat) : Int) := by omega
      have HS : Hid (behindN idx l = k) := by
        show _ = _
        rw [HI.out.2.2, List.drop_of_length_le (by omega)]
        rfl
      go_wp2_with (go_at_call 39; refine HC.out.mono ?_; rintro e w2 ⟨v2, rfl, hv2, ho2, hb2⟩; obtain ⟨oa2, cap2, he2, _⟩ := hv2.shape; rw [List.length_drop] at he2; subst he2; have HV := hid hv2; have HO2 := hid ho2; have HB2 := hid hb2; clear hv2 ho2 hb2)
      go_ret
      exact ⟨_, rfl, by rw [HS.out]; exact HV.out, fun z hz => Nat.le_trans HB.out.size (HO2.out z hz), HB.out.trans (HB2.out.mono HB.out.size)⟩
end Go.Proofs.YtclldpecbocclaaGreat

/- slices.Insert and slices.Replace at a row's end; put. -/
namespace Go.Proofs.YtclldpecbocclaaGreat
open Go.RowKit Go.Maps
set_option maxRecDepth 100000
set_option linter.unusedSimpArgs false
set_option linter.unusedVariables false

/-- What is left when entries were put behind some of a row's own. -/
def RepPost (w : World) (v : Value) (l : List Et) (e : Ending) (w' : World) : Prop :=
  ∃ v', e = .returned v' ∧ EL w' v' l ∧ (∀ k, v'.ownBlock = some k → v.ownBlock = some k ∨ w.heap.size ≤ k) ∧ w.grownBy w' v.ownBlock
theorem ENews {w : World} {g o : Nat} {l : List Et} (h : EAt w (some ⟨g, o, none⟩) l) : ∀ j u, (flatT l)[j]? = some u → w.cell? ((⟨g, o, none⟩ : Addr).add j) = some u := fun j u hu => by
  have hl : 0 < l.length := by
    have := (List.getElem?_eq_some_iff.1 hu).1
    rw [flatT_length] at this
    omega
  obtain ⟨g', o', e, hg, hc⟩ := h hl
  cases e
  have e2 : (⟨g, o, none⟩ : Addr).add j = ⟨g, o + j, none⟩ := by unfold Addr.add; split <;> simp_all
  rw [e2]
  exact hc j u hu
set_option maxHeartbeats 1600000 in
theorem insert_any {w : World} {v : Value} {l m : List Et} (h : EL w v l) {g o c : Nat} (hm : EAt w (some ⟨g, o, none⟩) m) (hl : l.length ≤ 3000000) (hml : m.length ≤ 1000000) (hm0 : 0 < m.length) :
    Calls Tryz.prog 64 #[v, .int .i64 (l.length : Int), .slice (some ⟨g, o, none⟩) m.length c] w fun e w' => RepPost w v (l ++ m) e w' := by
  obtain ⟨i0, hi0, hz0, hz1, hz2⟩ := info38
  obtain ⟨oa, cap, rfl, hcap, hcm, hnn, hoa⟩ := h.shape
  have HROW := hid h
  have HNW := hid (ENews hm)
  have HON := hid (flatT_one m)
  have HLn : Hid ((flatT m).length = m.length * 3) := flatT_length m
  have hm0' : ((m.length : Int) == 0) = false := beq_eq_false_iff_ne.2 (by omega)
  have hcm' : cap ≤ 9223372036854775807 := by unfold maxLen at hcm; omega
  have hlc : (l.length : Int) ≤ (cap : Int) := by omega
  unfold EL at HROW
  have HFin : Hid (∀ v' w', w'.ownsRow 0 37 3 v' (l.length + m.length) (flatT l ++ flatT m) → EL w' v' (l ++ m)) := fun v' w' h' => by
    unfold EL
    rw [List.length_append, flatT_append]
    exact h'
  clear h hm hoa
  generalize flatT l = FL at *
  generalize flatT m = FM at *
  rcases Nat.eq_or_lt_of_le hcap with hcl | hcl
  · subst hcl
    go_enter Tryz.func64, Tryz.ntmps64
    go_wp2_with (at_builtin; refine wpList_append_own_at _ rfl _ _ 31 rfl 0 37 i0 _ 3 32 Tryz.underlying31 hi0 hz0 hz1 hz2 rfl (by decide) _ l.length FL rfl HROW.out ⟨g, o, none⟩ m.length c FM rfl HLn.out HNW.out HON.out (by unfold maxLen; omega) (by omega) (Nat.zero_le _) ?_; intro v' w2 hown2 hg2 hx hat; have HG : Hid (w.grownBy w2 (Value.slice oa l.length l.length).ownBlock) := hg2; have HA : Hid (v'.ownBlock = (Value.slice oa l.length l.length).ownBlock ∨ v'.ownBlock = some w.heap.size) := hat; have HW := hid hown2; clear hg2 hx hat hown2)
    go_ret
    refine ⟨v', rfl, HFin.out _ _ HW.out, fun k hk => ?_, HG.out⟩
    rcases HA.out with h | h
    · exact .inl (by rw [← h]; exact hk)
    · rw [h] at hk; cases hk; exact .inr (Nat.le_refl _)
  · have hne : ¬ cap = l.length := by omega
    go_enter Tryz.func64, Tryz.ntmps64
    go_wp2_with (at_builtin; refine wpList_append_own_at _ rfl _ _ 31 rfl 0 37 i0 _ 3 32 Tryz.underlying31 hi0 hz0 hz1 hz2 rfl (by decide) _ l.length FL rfl HROW.out ⟨g, o, none⟩ m.length c FM rfl HLn.out HNW.out HON.out (by unfold maxLen; omega) (by omega) (Nat.zero_le _) ?_; intro v' w2 hown2 hg2 hx hat; have HG : Hid (w.grownBy w2 (Value.slice oa l.length cap).ownBlock) := hg2; have HA : Hid (v'.ownBlock = (Value.slice oa l.length cap).ownBlock ∨ v'.ownBlock = some w.heap.size) := hat; have HW := hid hown2; clear hg2 hx hat hown2)
    go_ret
    refine ⟨v', rfl, HFin.out _ _ HW.out, fun k hk => ?_, HG.out⟩
    rcases HA.out with h | h
    · exact .inl (by rw [← h]; exact hk)
    · rw [h] at hk; cases hk; exact .inr (Nat.le_refl _)
theorem setCells_blk {g : Nat} {T : TypeId} : ∀ (vs : List Value) (o : Nat) (w : World) (cur : Array Value), w.heap[g]? = some (.cells cur T) → o + vs.length ≤ cur.size →
    ∃ cur' : Array Value, (w.setCells g o vs).heap[g]? = some (.cells cur' T) ∧ cur'.size = cur.size ∧ (∀ j, j < o → cur'[j]? = cur[j]?) ∧ (∀ j, j < vs.length → cur'[o + j]? = vs[j]?)
  | [], o, w, cur, h, hl => ⟨cur, h, rfl, fun j _ => rfl, fun j hj => by simp at hj⟩
  | v :: r, o, w, cur, h, hl => by
    have hl' : o + 1 + r.length ≤ cur.size := by simp at hl; omega
    obtain ⟨cur', h1, h2, h3, h4⟩ := setCells_blk r (o + 1) (w.setCell ⟨g, o, none⟩ v) (cur.setIfInBounds o v) (set_box h) (by simpa using hl')
    refine ⟨cur', h1, by simpa using h2, fun j hj => ?_, fun j hj => ?_⟩
    · rw [h3 j (by omega), Array.getElem?_setIfInBounds_ne (by omega)]
    · cases j with
      | zero =>
        rw [Nat.add_zero, h3 o (by omega), Array.getElem?_setIfInBounds_self]
        simp; omega
      | succ j =>
        have := h4 j (by simp at hj; omega)
        rw [show o + (j + 1) = o + 1 + j by omega, this]
        rfl
theorem EL.of {w : World} {g cap : Nat} {cur : Array Value} {l : List Et} (h : w.heap[g]? = some (.cells cur 37)) (hs : cur.size = cap * 3) (hl : l.length ≤ cap) (hc : cap ≤ maxLen) (hu : ∀ (j : Nat) u, (flatT l)[j]? = some u → cur[j]? = some u) : EL w (.slice (some ⟨g, 0, none⟩) l.length cap) l := by
  refine ⟨flatT_length l, .inr ⟨g, cap, cur, rfl, Nat.zero_le _, h, hl, hc, hs, ?_⟩⟩
  apply List.ext_getElem?
  intro j
  by_cases hj : j < l.length * 3
  · have h1 : j < (flatT l).length := by rw [flatT_length]; exact hj
    have h2 : (flatT l)[j]? = some (flatT l)[j] := List.getElem?_eq_getElem h1
    rw [List.getElem?_take, if_pos hj, h2, Array.getElem?_toList]
    exact hu j _ h2
  · rw [List.getElem?_take, if_neg hj]
    exact (List.getElem?_eq_none (by rw [flatT_length]; omega)).symm
theorem EL.blk {w : World} {g n cap : Nat} {l : List Et} (h : EL w (.slice (some ⟨g, 0, none⟩) n cap) l) : ∃ cur : Array Value, w.heap[g]? = some (.cells cur 37) ∧ cur.size = cap * 3 ∧ l.length ≤ cap ∧ cap ≤ maxLen ∧ (∀ (j : Nat) u, (flatT l)[j]? = some u → cur[j]? = some u) := by
  obtain ⟨_, ⟨e, h0⟩ | ⟨g', cap', cur, e, hb, hg, hn, hc, hs, ht⟩⟩ := h
  · cases e
  · cases e
    refine ⟨cur, hg, hs, hn, hc, fun j u hu => ?_⟩
    rw [← ht, List.getElem?_take] at hu
    split at hu
    · rw [← Array.getElem?_toList]; exact hu
    · cases hu
def z38 : Value := .agg #[.int .i64 0, .int .i64 0, .string ⟨#[]⟩]
theorem run_clear38 (w : World) (ty b o n c : Nat) (hn : 0 < n) (hc : ∀ j, j < n * 3 → (w.cell? ⟨b, o + j, none⟩).isSome = true) (hf : ∀ j, j < n * 3 → w.frozen? ⟨b, o + j, none⟩ = false) :
    ∃ zs : List Value, zs.length = n * 3 ∧ (Builtin.clear_ #[31] ty #[.slice (some ⟨b, o, none⟩) n c]).run Tryz.prog w = .ok (.tuple #[]) (w.setCells b o zs) := by
  have hv : ∀ w, (zeroValue 37).run Tryz.prog w = .ok z38 w := fun w => by kernel_rfl
  have hzl : (Builtin.zeroCells z38.cells n).toList.length = n * 3 := by simp [Builtin.zeroCells, z38, Value.cells]
  refine ⟨(Builtin.zeroCells z38.cells n).toList, hzl, ?_⟩
  have hone : ∀ v ∈ (Builtin.zeroCells z38.cells n).toList, v.oneCell' = true := by
    intro v hv
    simp only [Builtin.zeroCells, Array.toList_map, List.mem_map] at hv
    obtain ⟨i, _, rfl⟩ := hv
    have hm : i % z38.cells.size = 0 ∨ i % z38.cells.size = 1 ∨ i % z38.cells.size = 2 := by
      have : z38.cells.size = 3 := rfl
      rw [this]
      omega
    rcases hm with h | h | h <;> rw [h] <;> rfl
  have hst := run_storeCells_cells (P := Tryz.prog) b o (Builtin.zeroCells z38.cells n).toList 0 w (by simpa [hzl] using hc) (by simpa [hzl] using hf) hone
  simp only [Nat.add_zero] at hst
  obtain ⟨m, rfl⟩ : ∃ m, n = m + 1 := ⟨n - 1, by omega⟩
  simp [Builtin.clear_, run_underlying Tryz.underlying31, hv, hst]
theorem setCells_grown (g : Nat) : ∀ (vs : List Value) (o : Nat) (w : World), w.grownBy (w.setCells g o vs) (some g)
  | [], o, w => ⟨rfl, rfl, rfl, Nat.le_refl _, fun k hk _ => rfl⟩
  | v :: r, o, w => (Lib.grownBy_setCell w g o v).trans (setCells_grown g r (o + 1) _)
/-- The row that stays, when entries are put in the place of more. -/
theorem replace_rows {w : World} {g0 n cap : Nat} {l m : List Et} (h : EL w (.slice (some ⟨g0, 0, none⟩) n cap) l) {g o : Nat} (hm : EAt w (some ⟨g, o, none⟩) m) (c i : Nat) (hi : i + m.length < l.length) :
    ∃ W2 W3 : World, (∀ ty, (Builtin.append_ #[31, 31] ty #[.slice (some ⟨g0, 0, none⟩) i cap, .slice (some ⟨g, o, none⟩) m.length c]).run Tryz.prog w = .ok (.slice (some ⟨g0, 0, none⟩) (i + m.length) cap) W2) ∧
      (∀ ty, (Builtin.clear_ #[31] ty #[.slice (some ⟨g0, (i + m.length) * 3, none⟩) (l.length - (i + m.length)) (cap - (i + m.length))]).run Tryz.prog W2 = .ok (.tuple #[]) W3) ∧
      EL W3 (.slice (some ⟨g0, 0, none⟩) (i + m.length) cap) (l.take i ++ m) ∧ w.grownBy W3 (some g0) := by
  obtain ⟨cur, hg, hs, hl, hc, hu⟩ := h.blk
  obtain ⟨i0, hi0, hz0, hz1, hz2⟩ := info38
  have hFl := flatT_length m
  have hcell : ∀ {W : World} {cu : Array Value}, W.heap[g0]? = some (.cells cu 37) → ∀ j, j < cu.size → (W.cell? ⟨g0, j, none⟩).isSome = true := fun {W cu} hW j hj => by
    rw [cell_at hW (u := cu[j]) (by simp [hj])]; rfl
  have happ : ∀ ty, (Builtin.append_ #[31, 31] ty #[.slice (some ⟨g0, 0, none⟩) i cap, .slice (some ⟨g, o, none⟩) m.length c]).run Tryz.prog w = .ok (.slice (some ⟨g0, 0, none⟩) (i + m.length) cap) (w.setCells g0 (0 + i * 3) (flatT m)) := fun ty => by
    have := run_append_room_cells (P := Tryz.prog) (w := w) 31 ty 37 i0 Tryz.underlying31 hi0 g0 0 i cap ⟨g, o, none⟩ m.length c (flatT m) (by rw [hz1]; exact hFl) (ENews hm) (flatT_one m) (by omega) (by rw [hz1]; exact fun j hj => hcell hg _ (by omega)) (by rw [hz1]; exact fun j hj => frozen_blk hg _)
    rw [hz1] at this
    exact this
  obtain ⟨cur2, h2, h2s, h2a, h2b⟩ := setCells_blk (flatT m) (0 + i * 3) w cur hg (by omega)
  obtain ⟨zs, hzl, hclr⟩ := run_clear38 (w.setCells g0 (0 + i * 3) (flatT m)) 0 g0 ((i + m.length) * 3) (l.length - (i + m.length)) (cap - (i + m.length)) (by omega) (fun j hj => hcell h2 _ (by omega)) (fun j hj => frozen_blk h2 _)
  obtain ⟨cur3, h3, h3s, h3a, h3b⟩ := setCells_blk zs ((i + m.length) * 3) (w.setCells g0 (0 + i * 3) (flatT m)) cur2 h2 (by omega)
  refine ⟨_, _, happ, fun ty => hclr, ?_, ?_⟩
  · have hln : (l.take i ++ m).length = i + m.length := by rw [List.length_append, List.length_take]; omega
    have hfin := EL.of (l := l.take i ++ m) h3 (cap := cap) (by omega) (by omega) hc ?_
    · rw [hln] at hfin; exact hfin
    intro j u hj
    have hj3 : j < (i + m.length) * 3 := by
      have := (List.getElem?_eq_some_iff.1 hj).1
      rw [flatT_length, hln] at this
      exact this
    rw [h3a j hj3]
    rw [flatT_append, flatT_take] at hj
    have hlk : ((flatT l).take (i * 3)).length = i * 3 := by rw [List.length_take, flatT_length]; omega
    by_cases hji : j < i * 3
    · rw [h2a j (by omega)]
      rw [List.getElem?_append_left (by omega), List.getElem?_take, if_pos hji] at hj
      exact hu j u hj
    · rw [List.getElem?_append_right (by omega), hlk] at hj
      have := h2b (j - i * 3) (by omega)
      rw [show 0 + i * 3 + (j - i * 3) = j by omega] at this
      rw [this]
      exact hj
  · exact (setCells_grown g0 _ _ w).trans (setCells_grown g0 _ _ _)
theorem wpList_append_run {w : World} {ops : Array Oper} {rest : List Oper} {o : Oper} {a : Act} {Q : Exit → Act → World → Prop} (hgd : o.guard = none) (sl x : Operand)
    (ho : o.op = .call { callee := .builtin .append, args := #[sl, x], argTypes := #[31, 31] }) (v1 v2 v' : Value) (w' : World) (hs : a.eval sl = v1) (hx : a.eval x = v2)
    (hr : ∀ ty, (Builtin.append_ #[31, 31] ty #[v1, v2]).run Tryz.prog w = .ok v' w') (h : wpList Tryz.prog ops Q rest (a.put o.dst v') w') : wpList Tryz.prog ops Q (o :: rest) a w := by
  refine wpList_plain hgd fun K hK => ?_
  have hr' := hr o.type
  unfold Oper.wp execOp
  simp only [ho, resolve, invoke, builtin, Sem.run_bind, Sem.run_pure, Result.andThen_ok, List.map_toArray, List.map_cons, List.map_nil, hs, hx, hr']
  exact hK _ _ h
set_option maxHeartbeats 1600000 in
theorem replace_any {w : World} {v : Value} {l m : List Et} (h : EL w v l) {g o c : Nat} (hm : EAt w (some ⟨g, o, none⟩) m) (hl : l.length ≤ 3000000) (hml : m.length ≤ 1000000) (hm0 : 0 < m.length) (i : Nat) (hi : i ≤ l.length) :
    Calls Tryz.prog 49 #[v, .int .i64 (i : Int), .int .i64 (l.length : Int), .slice (some ⟨g, o, none⟩) m.length c] w fun e w' => RepPost w v (l.take i ++ m) e w' := by
  obtain ⟨oa, cap, rfl, hcap, hcm, hnn, hoa⟩ := h.shape
  have hcm' : cap ≤ 9223372036854775807 := by unfold maxLen at hcm; omega
  have hlc : (l.length : Int) ≤ (cap : Int) := by omega
  have hic : (i : Int) ≤ (l.length : Int) := by omega
  have hi0 : (0 : Int) ≤ (i : Int) := by omega
  rcases Nat.eq_or_lt_of_le hi with he | hlt
  · subst he
    have HI := hid (insert_any h (c := c) hm hl hml hm0)
    rw [List.take_length]
    clear h hm hoa
    rcases Nat.eq_or_lt_of_le hcap with hcl | hcl
    · subst hcl
      go_enter Tryz.func49, Tryz.ntmps49
      go_wp2_with (go_at_call 64; refine HI.out.mono ?_; rintro e w2 ⟨v2, rfl, hq⟩; have HQ := hid hq; clear hq)
      go_ret
      exact ⟨_, rfl, HQ.out⟩
    · have hne : ¬ cap = l.length := by omega
      go_enter Tryz.func49, Tryz.ntmps49
      go_wp2_with (go_at_call 64; refine HI.out.mono ?_; rintro e w2 ⟨v2, rfl, hq⟩; have HQ := hid hq; clear hq)
      go_ret
      exact ⟨_, rfl, HQ.out⟩
  · obtain ⟨g0, rfl⟩ := hoa (by omega)
    have hne : ¬ cap = i := by omega
    have hij : ((i : Int) == (l.length : Int)) = false := beq_eq_false_iff_ne.2 (by omega)
    have hicap : (i : Int) ≤ (cap : Int) := by omega
    by_cases hsh : i + m.length < l.length
    · obtain ⟨W2, W3, happ, hclr, he, hg⟩ := replace_rows h hm c i hsh
      have HE := hid he
      have HG := hid hg
      have hsum : ((i + m.length : Nat) : Int) < (l.length : Int) := by omega
      have hsum2 : (i : Int) + (m.length : Int) < (l.length : Int) := by omega
      have hne2 : ¬ cap = i + m.length := by omega
      have hsc : ((i + m.length : Nat) : Int) ≤ (cap : Int) := by omega
      clear he hg h hm hoa
      generalize hZ : i + m.length = Z at *
      have HZ := hid hZ
      clear hZ
      go_enter Tryz.func49, Tryz.ntmps49
      go_wp2_with (at_builtin; refine wpList_append_run rfl _ _ rfl _ _ _ W2 rfl rfl happ ?_)
      go_ret
      exact ⟨_, rfl, HE.out, fun k hk => .inl hk, HG.out⟩
    · obtain ⟨i0, hi1, hz0, hz1, hz2⟩ := info38
      have HROW : Hid (w.ownsRow 0 37 3 (.slice (some ⟨g0, 0, none⟩) i cap) i (flatT (l.take i))) := by
        have h1 := h.take i hi
        unfold EL at h1
        rw [List.length_take, Nat.min_eq_left hi] at h1
        exact h1
      have HNW := hid (ENews hm)
      have HON := hid (flatT_one m)
      have HLn : Hid ((flatT m).length = m.length * 3) := flatT_length m
      have hsum : ¬ ((i + m.length : Nat) : Int) < (l.length : Int) := by omega
      have hsum2 : ¬ (i : Int) + (m.length : Int) < (l.length : Int) := by omega
      have HFin : Hid (∀ v' w', w'.ownsRow 0 37 3 v' (i + m.length) (flatT (l.take i) ++ flatT m) → EL w' v' (l.take i ++ m) ∧ ∃ oa cap', v' = .slice oa (i + m.length) cap') := fun v' w' h' => by
        have h2 : EL w' v' (l.take i ++ m) := by
          unfold EL
          rw [List.length_append, List.length_take, Nat.min_eq_left hi, flatT_append]
          exact h'
        obtain ⟨oa', cap', e, _⟩ := h2.shape
        rw [List.length_append, List.length_take, Nat.min_eq_left hi] at e
        exact ⟨h2, oa', cap', e⟩
      clear h hm hoa
      generalize flatT (l.take i) = FL at *
      generalize flatT m = FM at *
      go_enter Tryz.func49, Tryz.ntmps49
      go_wp2_with (at_builtin; refine wpList_append_own_at _ rfl _ _ 31 rfl 0 37 i0 _ 3 32 Tryz.underlying31 hi1 hz0 hz1 hz2 rfl (by decide) _ i FL rfl HROW.out ⟨g, o, none⟩ m.length c FM rfl HLn.out HNW.out HON.out (by unfold maxLen; omega) (by omega) (Nat.zero_le _) ?_; intro v' w2 hown2 hg2 hx hat; have HG : Hid (w.grownBy w2 (Value.slice (some ⟨g0, 0, none⟩) l.length cap).ownBlock) := hg2; have HA : Hid (v'.ownBlock = (Value.slice (some ⟨g0, 0, none⟩) l.length cap).ownBlock ∨ v'.ownBlock = some w.heap.size) := hat; obtain ⟨hel, oa2, cap2, rfl⟩ := HFin.out _ _ hown2; have HW := hid hel; clear hg2 hx hat hown2 hel)
      go_ret
      refine ⟨_, rfl, HW.out, fun k hk => ?_, HG.out⟩
      rcases HA.out with h | h
      · exact .inl (by rw [← h]; exact hk)
      · have hk' : (Value.slice oa2 (i + m.length) cap2).ownBlock = some k := hk
        rw [h] at hk'; cases hk'; exact .inr (Nat.le_refl _)
end Go.Proofs.YtclldpecbocclaaGreat

