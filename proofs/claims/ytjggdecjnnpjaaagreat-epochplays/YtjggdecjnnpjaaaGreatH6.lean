/- Two rows of entries; keep. -/
import Derived.Test.YtjggdecjnnpjaaaGreatH5
import Derived.Laws.StructEq
namespace Go.Proofs.YtjggdecjnnpjaaaGreat
open Go.RowKit Go.Maps Go.Sort
set_option maxRecDepth 100000
set_option linter.unusedSimpArgs false
set_option linter.unusedVariables false


set_option maxHeartbeats 1000000 in
theorem neq74 (x y : Int × Int) (w : World) : (binOp .neq 68 (.agg #[.int .i64 x.1, .int .i64 x.2]) (.agg #[.int .i64 y.1, .int .i64 y.2])).run Tryz.prog w = .ok (.bool (!decide (x = y))) w := by
  rw [run_neq_struct, run_equalIn_agg w 9999 68 _ _ (by kernel_rfl) (by kernel_rfl)]
  obtain ⟨a, b⟩ := x
  obtain ⟨c, d⟩ := y
  by_cases h1 : a = c <;> by_cases h2 : b = d <;> simp [go_sem, h1, h2]
theorem take_ext {l m : List (Int × Int)} (hl : l.length = m.length) (h : ∀ (i : Nat) x y, l[i]? = some x → m[i]? = some y → x = y) : l = m := by
  apply List.ext_getElem? 
  intro i
  rcases Nat.lt_or_ge i l.length with h1 | h1
  · have h2 : i < m.length := by omega
    have e1 : l[i]? = some l[i] := by simp [h1]
    have e2 : m[i]? = some m[i] := by simp [h2]
    rw [e1, e2, h i _ _ e1 e2]
  · rw [List.getElem?_eq_none h1, List.getElem?_eq_none (by omega)]
set_option maxHeartbeats 1600000 in
theorem equal_any {w : World} {v1 v2 : Value} {l m : List (Int × Int)} (h1 : EL w v1 l) (h2 : EL w v2 m) (hl : l.length ≤ 201) (hm : m.length ≤ 201) :
    Calls Tryz.prog 51 #[v1, v2] w fun e w' => e = .returned (.bool (decide (l = m))) ∧ Below w.heap.size w w' := by
  obtain ⟨oa, cap, rfl, hcap, hcm, hnn, hoa⟩ := h1.shape
  obtain ⟨ob, cbp, rfl, hcbp, hcbm, hnnb, hob⟩ := h2.shape
  by_cases he : l.length = m.length
  · have hne : ((l.length : Int) != (m.length : Int)) = false := by simp; omega
    have HL := hid he
    have H1 := hid h1
    have H2 := hid h2
    clear h1 h2 he
    go_enter Tryz.func51, Tryz.ntmps51
    go_wp2_with fail
    go_loopg [13] l.length (fun kx s13 wr => ∃ k : Nat, k ≤ l.length ∧ l.length - k ≤ kx ∧ s13 = .int .i64 (k : Int) ∧ Hid (Below w.heap.size w wr ∧ ∀ (i : Nat) x y, i < k → l[i]? = some x → m[i]? = some y → x = y))
    case atStart => exact ⟨0, by omega, by omega, rfl, Below.refl _ _, fun i x y hi => by omega⟩
    case round =>
      obtain ⟨k, hk, hkx, rfl, HB⟩ := hrel
      by_cases hlt : k < l.length
      · have hlt' : (k : Int) < (l.length : Int) := by omega
        have hlm : k < m.length := by have := HL.out; omega
        have hlm' : (k : Int) < (m.length : Int) := by omega
        obtain ⟨ga, rfl⟩ := hoa (by omega)
        obtain ⟨gb, rfl⟩ := hob (by omega)
        have hx : l[k]? = some l[k] := List.getElem?_eq_getElem hlt
        have hy : m[k]? = some m[k] := List.getElem?_eq_getElem hlm
        obtain ⟨a0, a1⟩ := (H1.out.under HB.out.1).at_ k _ hx
        obtain ⟨b0, b1⟩ := (H2.out.under HB.out.1).at_ k _ hy
        have HX := hid hx
        have HY := hid hy
        clear hx hy
        generalize l[k] = x at *
        generalize m[k] = y at *
        by_cases hxy : x = y
        · subst hxy
          have hq : ∀ W : World, (binOp .neq 68 (.agg #[.int .i64 x.1, .int .i64 x.2]) (.agg #[.int .i64 x.1, .int .i64 x.2])).run Tryz.prog W = .ok (.bool false) W := fun W => by rw [neq74]; simp
          go_wp2_with fail
          try go_quiet (fail)
          try go_wp2_with fail
          go_roundg (l.length - (k + 1))
          case measure => omega
          case rel =>
            refine ⟨k + 1, by omega, Nat.le_refl _, by go_num, by first | exact HB.out.1 | exact HB.out.1.drew | exact below_drewN HB.out.1 _, fun i x' y' hi e1 e2 => ?_⟩
            rcases Nat.lt_or_ge i k with h | h
            · exact HB.out.2 i x' y' h e1 e2
            · have e : i = k := by omega
              subst e
              rw [HX.out] at e1
              rw [HY.out] at e2
              cases e1
              cases e2
              rfl
        · have hq : ∀ W : World, (binOp .neq 68 (.agg #[.int .i64 x.1, .int .i64 x.2]) (.agg #[.int .i64 y.1, .int .i64 y.2])).run Tryz.prog W = .ok (.bool true) W := fun W => by rw [neq74]; simp [hxy]
          have HF : Hid (decide (l = m) = false) := by
            refine decide_eq_false (fun e => hxy ?_)
            have h1 := HX.out
            have h2 := HY.out
            rw [e] at h1
            rw [h1] at h2
            cases h2
            rfl
          clear hxy
          go_wp2_with fail
          try go_quiet (fail)
          try go_wp2_with fail
          go_ret
          exact ⟨by rw [HF.out]; rfl, by first | exact HB.out.1 | exact HB.out.1.drew | exact below_drewN HB.out.1 _⟩
      · have hlt' : ¬ (k : Int) < (l.length : Int) := by omega
        have HF : Hid (decide (l = m) = true) := decide_eq_true (take_ext HL.out (fun i x y e1 e2 => HB.out.2 i x y (by have := (List.getElem?_eq_some_iff.1 e1).1; omega) e1 e2))
        go_wp2_with fail
        go_ret
        exact ⟨by rw [HF.out]; rfl, HB.out.1⟩
  · have hne : ((l.length : Int) != (m.length : Int)) = true := by simp; omega
    have HF : Hid (decide (l = m) = false) := decide_eq_false (fun e => he (by rw [e]))
    clear h1 h2 he
    go_enter Tryz.func51, Tryz.ntmps51
    go_wp2_with fail
    go_ret
    exact ⟨by rw [HF.out]; rfl, Below.refl _ _⟩
set_option maxHeartbeats 400000 in
theorem cdisk_any {w : World} {U q a name v l} (h : CacheM w U q a name v l) : Calls Tryz.prog 52 #[.pointer (some ⟨q, 0, none⟩)] w fun e w' => e = .returned (.pointer (some ⟨a, 0, none⟩)) ∧ w' = w := by
  obtain ⟨k0, k1, k2⟩ := h.c
  clear h
  go_enter Tryz.func52, Tryz.ntmps52
  go_wp2_with fail
  go_ret
  exact ⟨rfl, rfl⟩

end Go.Proofs.YtjggdecjnnpjaaaGreat

/- What is asked by a closure: where the first entry stands that is so. -/
namespace Go.Proofs.YtjggdecjnnpjaaaGreat
open Go.RowKit Go.Maps Go.Sort
set_option maxRecDepth 100000
set_option linter.unusedSimpArgs false
set_option linter.unusedVariables false


set_option maxHeartbeats 800000 in
theorem clo31 (x : Int × Int) (N : Int) (g : Nat) (w : World) (hg : w.cell? ⟨g, 0, none⟩ = some (.int .i64 N)) :
    Calls Tryz.prog 32 #[.agg #[.int .i64 x.1, .int .i64 x.2], .pointer (some ⟨g, 0, none⟩)] w fun en w' => en = .returned (.bool (decide (N ≤ x.2))) ∧ Below w.heap.size w w' := by
  have hgl := World.new_ne w ⟨g, 0, none⟩ hg
  have hgl' : ¬ g = w.heap.size := fun h => hgl h.symm
  have hc : (w.alloc (.cells #[.int .i64 x.1, .int .i64 x.2] 68)).cell? ⟨g, 0, none⟩ = some (.int .i64 N) := (World.cell?_alloc_some w _ _ (by rw [hg]; rfl)).trans hg
  have HB := hid ((Below.refl w.heap.size w).alloc (Nat.le_refl _) (.cells #[.int .i64 x.1, .int .i64 x.2] 68))
  have HE := hid (heap_alloc_new w (.cells #[.int .i64 x.1, .int .i64 x.2] 68))
  have e0 := cell_at HE.out (j := 0) rfl
  have e1 := cell_at HE.out (j := 1) rfl
  clear hg hgl
  go_enter Tryz.func32, Tryz.ntmps32
  go_wp2_with fail
  generalize w.alloc (.cells #[.int .i64 x.1, .int .i64 x.2] 68) = W1 at *
  try go_quiet (fail)
  try go_wp2_with fail
  go_ret
  exact ⟨rfl, by first | exact HB.out | exact HB.out.drew⟩
set_option maxHeartbeats 1600000 in
theorem one31 {w : World} {U q a name v} {l : List (Int × Int)} (h : CacheM w U q a name v l) (hlen : l.length ≤ 200) (i : Nat) (x : Int × Int) (hx : l[i]? = some x) (gb gs g : Nat) (N : Int) (hgb : w.cell? ⟨gb, 0, none⟩ = some (.func (.func 32) #[] #[.pointer (some ⟨g, 0, none⟩)])) (hgs : w.cell? ⟨gs, 0, none⟩ = some (.pointer (some ⟨q, 0, none⟩))) (hg : w.cell? ⟨g, 0, none⟩ = some (.int .i64 N)) :
    Calls Tryz.prog 50 #[.int .i64 (i : Int), .pointer (some ⟨gb, 0, none⟩), .pointer (some ⟨gs, 0, none⟩)] w fun en w' => en = .returned (.bool (decide (N ≤ x.2))) ∧ Below w.heap.size w w' := by
  have hil : i < l.length := (List.getElem?_eq_some_iff.1 hx).1
  obtain ⟨oa, cap, rfl, hcap, hcm, hnn, hoa⟩ := h.ents.shape
  obtain ⟨g2, rfl⟩ := hoa (by omega)
  obtain ⟨r0, r1⟩ := h.ents.at_ i x hx
  obtain ⟨k0, k1, k2⟩ := h.c
  have HC : Hid (∀ W, Below w.heap.size w W → Calls Tryz.prog 32 #[.agg #[.int .i64 x.1, .int .i64 x.2], .pointer (some ⟨g, 0, none⟩)] W fun en w' => en = .returned (.bool (decide (N ≤ x.2))) ∧ Below w.heap.size w w') := fun W hb =>
    (clo31 x N g W ((World.cell?_of_block (hb.block g (World.block_lt_of_cell? w _ hg))).trans hg)).mono fun e w' ⟨e1, e2⟩ => ⟨e1, hb.trans (e2.mono hb.size)⟩
  have hi2 : (i : Int) < (l.length : Int) := by omega
  clear h hx hoa
  have HK : Hid (∀ W, Below w.heap.size w W → ∀ p u, w.cell? p = some u → W.cell? p = some u) := fun W hb p u hu => (World.cell?_of_block (hb.block p.block (World.block_lt_of_cell? w _ hu))).trans hu
  go_enter Tryz.func50, Tryz.ntmps50
  go_wp2_with fail
  go_region_held3 (fun w' => w'.cell? ⟨gb, 0, none⟩ = some (.func (.func 32) #[] #[.pointer (some ⟨g, 0, none⟩)]) ∧ w'.cell? ⟨gs, 0, none⟩ = some (.pointer (some ⟨q, 0, none⟩)) ∧ w'.cell? ⟨q, 2, none⟩ = some (.slice (some ⟨g2, 0, none⟩) l.length cap) ∧ w'.cell? ⟨g2, i * 2, none⟩ = some (.int .i64 x.1) ∧ w'.cell? ⟨g2, i * 2 + 1, none⟩ = some (.int .i64 x.2)) (go_keep)
    (first
    | (go_at_call 32; refine (HC.out _ (by first | exact (Below.refl _ _) | exact (Below.refl _ _).drew)).mono ?_; rintro e w4 ⟨rfl, hb4⟩; have p0 := HK.out _ hb4 _ _ hgb; have p1 := HK.out _ hb4 _ _ hgs; have p2 := HK.out _ hb4 _ _ k2; have p3 := HK.out _ hb4 _ _ r0; have p4 := HK.out _ hb4 _ _ r1)
    | fail)
  all_goals
    go_wp2_with fail
    go_ret
    exact ⟨rfl, hb4⟩

set_option maxHeartbeats 800000 in
theorem clo33 (x : Int × Int) (N : Int) (g : Nat) (w : World) (hg : w.cell? ⟨g, 0, none⟩ = some (.int .i64 N)) :
    Calls Tryz.prog 37 #[.agg #[.int .i64 x.1, .int .i64 x.2], .pointer (some ⟨g, 0, none⟩)] w fun en w' => en = .returned (.bool (decide (N ≤ x.2))) ∧ Below w.heap.size w w' := by
  have hgl := World.new_ne w ⟨g, 0, none⟩ hg
  have hgl' : ¬ g = w.heap.size := fun h => hgl h.symm
  have hc : (w.alloc (.cells #[.int .i64 x.1, .int .i64 x.2] 68)).cell? ⟨g, 0, none⟩ = some (.int .i64 N) := (World.cell?_alloc_some w _ _ (by rw [hg]; rfl)).trans hg
  have HB := hid ((Below.refl w.heap.size w).alloc (Nat.le_refl _) (.cells #[.int .i64 x.1, .int .i64 x.2] 68))
  have HE := hid (heap_alloc_new w (.cells #[.int .i64 x.1, .int .i64 x.2] 68))
  have e0 := cell_at HE.out (j := 0) rfl
  have e1 := cell_at HE.out (j := 1) rfl
  clear hg hgl
  go_enter Tryz.func37, Tryz.ntmps37
  go_wp2_with fail
  generalize w.alloc (.cells #[.int .i64 x.1, .int .i64 x.2] 68) = W1 at *
  try go_quiet (fail)
  try go_wp2_with fail
  go_ret
  exact ⟨rfl, by first | exact HB.out | exact HB.out.drew⟩
set_option maxHeartbeats 1600000 in
theorem one33 {w : World} {U q a name v} {l : List (Int × Int)} (h : CacheM w U q a name v l) (hlen : l.length ≤ 200) (i : Nat) (x : Int × Int) (hx : l[i]? = some x) (gb gs g : Nat) (N : Int) (hgb : w.cell? ⟨gb, 0, none⟩ = some (.func (.func 37) #[] #[.pointer (some ⟨g, 0, none⟩)])) (hgs : w.cell? ⟨gs, 0, none⟩ = some (.pointer (some ⟨q, 0, none⟩))) (hg : w.cell? ⟨g, 0, none⟩ = some (.int .i64 N)) :
    Calls Tryz.prog 50 #[.int .i64 (i : Int), .pointer (some ⟨gb, 0, none⟩), .pointer (some ⟨gs, 0, none⟩)] w fun en w' => en = .returned (.bool (decide (N ≤ x.2))) ∧ Below w.heap.size w w' := by
  have hil : i < l.length := (List.getElem?_eq_some_iff.1 hx).1
  obtain ⟨oa, cap, rfl, hcap, hcm, hnn, hoa⟩ := h.ents.shape
  obtain ⟨g2, rfl⟩ := hoa (by omega)
  obtain ⟨r0, r1⟩ := h.ents.at_ i x hx
  obtain ⟨k0, k1, k2⟩ := h.c
  have HC : Hid (∀ W, Below w.heap.size w W → Calls Tryz.prog 37 #[.agg #[.int .i64 x.1, .int .i64 x.2], .pointer (some ⟨g, 0, none⟩)] W fun en w' => en = .returned (.bool (decide (N ≤ x.2))) ∧ Below w.heap.size w w') := fun W hb =>
    (clo33 x N g W ((World.cell?_of_block (hb.block g (World.block_lt_of_cell? w _ hg))).trans hg)).mono fun e w' ⟨e1, e2⟩ => ⟨e1, hb.trans (e2.mono hb.size)⟩
  have hi2 : (i : Int) < (l.length : Int) := by omega
  clear h hx hoa
  have HK : Hid (∀ W, Below w.heap.size w W → ∀ p u, w.cell? p = some u → W.cell? p = some u) := fun W hb p u hu => (World.cell?_of_block (hb.block p.block (World.block_lt_of_cell? w _ hu))).trans hu
  go_enter Tryz.func50, Tryz.ntmps50
  go_wp2_with fail
  go_region_held3 (fun w' => w'.cell? ⟨gb, 0, none⟩ = some (.func (.func 37) #[] #[.pointer (some ⟨g, 0, none⟩)]) ∧ w'.cell? ⟨gs, 0, none⟩ = some (.pointer (some ⟨q, 0, none⟩)) ∧ w'.cell? ⟨q, 2, none⟩ = some (.slice (some ⟨g2, 0, none⟩) l.length cap) ∧ w'.cell? ⟨g2, i * 2, none⟩ = some (.int .i64 x.1) ∧ w'.cell? ⟨g2, i * 2 + 1, none⟩ = some (.int .i64 x.2)) (go_keep)
    (first
    | (go_at_call 37; refine (HC.out _ (by first | exact (Below.refl _ _) | exact (Below.refl _ _).drew)).mono ?_; rintro e w4 ⟨rfl, hb4⟩; have p0 := HK.out _ hb4 _ _ hgb; have p1 := HK.out _ hb4 _ _ hgs; have p2 := HK.out _ hb4 _ _ k2; have p3 := HK.out _ hb4 _ _ r0; have p4 := HK.out _ hb4 _ _ r1)
    | fail)
  all_goals
    go_wp2_with fail
    go_ret
    exact ⟨rfl, hb4⟩

set_option maxHeartbeats 800000 in
theorem clo34 (x : Int × Int) (N : Int) (g : Nat) (w : World) (hg : w.cell? ⟨g, 0, none⟩ = some (.int .i64 N)) :
    Calls Tryz.prog 38 #[.agg #[.int .i64 x.1, .int .i64 x.2], .pointer (some ⟨g, 0, none⟩)] w fun en w' => en = .returned (.bool (decide (N < x.2))) ∧ Below w.heap.size w w' := by
  have hgl := World.new_ne w ⟨g, 0, none⟩ hg
  have hgl' : ¬ g = w.heap.size := fun h => hgl h.symm
  have hc : (w.alloc (.cells #[.int .i64 x.1, .int .i64 x.2] 68)).cell? ⟨g, 0, none⟩ = some (.int .i64 N) := (World.cell?_alloc_some w _ _ (by rw [hg]; rfl)).trans hg
  have HB := hid ((Below.refl w.heap.size w).alloc (Nat.le_refl _) (.cells #[.int .i64 x.1, .int .i64 x.2] 68))
  have HE := hid (heap_alloc_new w (.cells #[.int .i64 x.1, .int .i64 x.2] 68))
  have e0 := cell_at HE.out (j := 0) rfl
  have e1 := cell_at HE.out (j := 1) rfl
  clear hg hgl
  go_enter Tryz.func38, Tryz.ntmps38
  go_wp2_with fail
  generalize w.alloc (.cells #[.int .i64 x.1, .int .i64 x.2] 68) = W1 at *
  try go_quiet (fail)
  try go_wp2_with fail
  go_ret
  exact ⟨rfl, by first | exact HB.out | exact HB.out.drew⟩
set_option maxHeartbeats 1600000 in
theorem one34 {w : World} {U q a name v} {l : List (Int × Int)} (h : CacheM w U q a name v l) (hlen : l.length ≤ 200) (i : Nat) (x : Int × Int) (hx : l[i]? = some x) (gb gs g : Nat) (N : Int) (hgb : w.cell? ⟨gb, 0, none⟩ = some (.func (.func 38) #[] #[.pointer (some ⟨g, 0, none⟩)])) (hgs : w.cell? ⟨gs, 0, none⟩ = some (.pointer (some ⟨q, 0, none⟩))) (hg : w.cell? ⟨g, 0, none⟩ = some (.int .i64 N)) :
    Calls Tryz.prog 50 #[.int .i64 (i : Int), .pointer (some ⟨gb, 0, none⟩), .pointer (some ⟨gs, 0, none⟩)] w fun en w' => en = .returned (.bool (decide (N < x.2))) ∧ Below w.heap.size w w' := by
  have hil : i < l.length := (List.getElem?_eq_some_iff.1 hx).1
  obtain ⟨oa, cap, rfl, hcap, hcm, hnn, hoa⟩ := h.ents.shape
  obtain ⟨g2, rfl⟩ := hoa (by omega)
  obtain ⟨r0, r1⟩ := h.ents.at_ i x hx
  obtain ⟨k0, k1, k2⟩ := h.c
  have HC : Hid (∀ W, Below w.heap.size w W → Calls Tryz.prog 38 #[.agg #[.int .i64 x.1, .int .i64 x.2], .pointer (some ⟨g, 0, none⟩)] W fun en w' => en = .returned (.bool (decide (N < x.2))) ∧ Below w.heap.size w w') := fun W hb =>
    (clo34 x N g W ((World.cell?_of_block (hb.block g (World.block_lt_of_cell? w _ hg))).trans hg)).mono fun e w' ⟨e1, e2⟩ => ⟨e1, hb.trans (e2.mono hb.size)⟩
  have hi2 : (i : Int) < (l.length : Int) := by omega
  clear h hx hoa
  have HK : Hid (∀ W, Below w.heap.size w W → ∀ p u, w.cell? p = some u → W.cell? p = some u) := fun W hb p u hu => (World.cell?_of_block (hb.block p.block (World.block_lt_of_cell? w _ hu))).trans hu
  go_enter Tryz.func50, Tryz.ntmps50
  go_wp2_with fail
  go_region_held3 (fun w' => w'.cell? ⟨gb, 0, none⟩ = some (.func (.func 38) #[] #[.pointer (some ⟨g, 0, none⟩)]) ∧ w'.cell? ⟨gs, 0, none⟩ = some (.pointer (some ⟨q, 0, none⟩)) ∧ w'.cell? ⟨q, 2, none⟩ = some (.slice (some ⟨g2, 0, none⟩) l.length cap) ∧ w'.cell? ⟨g2, i * 2, none⟩ = some (.int .i64 x.1) ∧ w'.cell? ⟨g2, i * 2 + 1, none⟩ = some (.int .i64 x.2)) (go_keep)
    (first
    | (go_at_call 38; refine (HC.out _ (by first | exact (Below.refl _ _) | exact (Below.refl _ _).drew)).mono ?_; rintro e w4 ⟨rfl, hb4⟩; have p0 := HK.out _ hb4 _ _ hgb; have p1 := HK.out _ hb4 _ _ hgs; have p2 := HK.out _ hb4 _ _ k2; have p3 := HK.out _ hb4 _ _ r0; have p4 := HK.out _ hb4 _ _ r1)
    | fail)
  all_goals
    go_wp2_with fail
    go_ret
    exact ⟨rfl, hb4⟩

set_option maxHeartbeats 800000 in
theorem clo35 (x : Int × Int) (N : Int) (g : Nat) (w : World) (hg : w.cell? ⟨g, 0, none⟩ = some (.int .i64 N)) :
    Calls Tryz.prog 39 #[.agg #[.int .i64 x.1, .int .i64 x.2], .pointer (some ⟨g, 0, none⟩)] w fun en w' => en = .returned (.bool (decide (N < x.1))) ∧ Below w.heap.size w w' := by
  have hgl := World.new_ne w ⟨g, 0, none⟩ hg
  have hgl' : ¬ g = w.heap.size := fun h => hgl h.symm
  have hc : (w.alloc (.cells #[.int .i64 x.1, .int .i64 x.2] 68)).cell? ⟨g, 0, none⟩ = some (.int .i64 N) := (World.cell?_alloc_some w _ _ (by rw [hg]; rfl)).trans hg
  have HB := hid ((Below.refl w.heap.size w).alloc (Nat.le_refl _) (.cells #[.int .i64 x.1, .int .i64 x.2] 68))
  have HE := hid (heap_alloc_new w (.cells #[.int .i64 x.1, .int .i64 x.2] 68))
  have e0 := cell_at HE.out (j := 0) rfl
  have e1 := cell_at HE.out (j := 1) rfl
  clear hg hgl
  go_enter Tryz.func39, Tryz.ntmps39
  go_wp2_with fail
  generalize w.alloc (.cells #[.int .i64 x.1, .int .i64 x.2] 68) = W1 at *
  try go_quiet (fail)
  try go_wp2_with fail
  go_ret
  exact ⟨rfl, by first | exact HB.out | exact HB.out.drew⟩
set_option maxHeartbeats 1600000 in
theorem one35 {w : World} {U q a name v} {l : List (Int × Int)} (h : CacheM w U q a name v l) (hlen : l.length ≤ 200) (i : Nat) (x : Int × Int) (hx : l[i]? = some x) (gb gs g : Nat) (N : Int) (hgb : w.cell? ⟨gb, 0, none⟩ = some (.func (.func 39) #[] #[.pointer (some ⟨g, 0, none⟩)])) (hgs : w.cell? ⟨gs, 0, none⟩ = some (.pointer (some ⟨q, 0, none⟩))) (hg : w.cell? ⟨g, 0, none⟩ = some (.int .i64 N)) :
    Calls Tryz.prog 50 #[.int .i64 (i : Int), .pointer (some ⟨gb, 0, none⟩), .pointer (some ⟨gs, 0, none⟩)] w fun en w' => en = .returned (.bool (decide (N < x.1))) ∧ Below w.heap.size w w' := by
  have hil : i < l.length := (List.getElem?_eq_some_iff.1 hx).1
  obtain ⟨oa, cap, rfl, hcap, hcm, hnn, hoa⟩ := h.ents.shape
  obtain ⟨g2, rfl⟩ := hoa (by omega)
  obtain ⟨r0, r1⟩ := h.ents.at_ i x hx
  obtain ⟨k0, k1, k2⟩ := h.c
  have HC : Hid (∀ W, Below w.heap.size w W → Calls Tryz.prog 39 #[.agg #[.int .i64 x.1, .int .i64 x.2], .pointer (some ⟨g, 0, none⟩)] W fun en w' => en = .returned (.bool (decide (N < x.1))) ∧ Below w.heap.size w w') := fun W hb =>
    (clo35 x N g W ((World.cell?_of_block (hb.block g (World.block_lt_of_cell? w _ hg))).trans hg)).mono fun e w' ⟨e1, e2⟩ => ⟨e1, hb.trans (e2.mono hb.size)⟩
  have hi2 : (i : Int) < (l.length : Int) := by omega
  clear h hx hoa
  have HK : Hid (∀ W, Below w.heap.size w W → ∀ p u, w.cell? p = some u → W.cell? p = some u) := fun W hb p u hu => (World.cell?_of_block (hb.block p.block (World.block_lt_of_cell? w _ hu))).trans hu
  go_enter Tryz.func50, Tryz.ntmps50
  go_wp2_with fail
  go_region_held3 (fun w' => w'.cell? ⟨gb, 0, none⟩ = some (.func (.func 39) #[] #[.pointer (some ⟨g, 0, none⟩)]) ∧ w'.cell? ⟨gs, 0, none⟩ = some (.pointer (some ⟨q, 0, none⟩)) ∧ w'.cell? ⟨q, 2, none⟩ = some (.slice (some ⟨g2, 0, none⟩) l.length cap) ∧ w'.cell? ⟨g2, i * 2, none⟩ = some (.int .i64 x.1) ∧ w'.cell? ⟨g2, i * 2 + 1, none⟩ = some (.int .i64 x.2)) (go_keep)
    (first
    | (go_at_call 39; refine (HC.out _ (by first | exact (Below.refl _ _) | exact (Below.refl _ _).drew)).mono ?_; rintro e w4 ⟨rfl, hb4⟩; have p0 := HK.out _ hb4 _ _ hgb; have p1 := HK.out _ hb4 _ _ hgs; have p2 := HK.out _ hb4 _ _ k2; have p3 := HK.out _ hb4 _ _ r0; have p4 := HK.out _ hb4 _ _ r1)
    | fail)
  all_goals
    go_wp2_with fail
    go_ret
    exact ⟨rfl, hb4⟩

end Go.Proofs.YtjggdecjnnpjaaaGreat

