/- What is asked by a closure: where the first entry stands that is so. -/
import Derived.Test.YtjggdecjnnpjaaaH6
namespace Go.Proofs.Ytjggdecjnnpjaaa
open Go.RowKit Go.Maps Go.Sort
set_option maxRecDepth 100000
set_option linter.unusedSimpArgs false
set_option linter.unusedVariables false


set_option maxHeartbeats 800000 in
theorem clo31 (x : Int × Int) (N : Int) (g : Nat) (w : World) (hg : w.cell? ⟨g, 0, none⟩ = some (.int .i64 N)) :
    Calls Try.prog 31 #[.agg #[.int .i64 x.1, .int .i64 x.2], .pointer (some ⟨g, 0, none⟩)] w fun en w' => en = .returned (.bool (decide (N ≤ x.2))) ∧ Below w.heap.size w w' := by
  have hgl := World.new_ne w ⟨g, 0, none⟩ hg
  have hgl' : ¬ g = w.heap.size := fun h => hgl h.symm
  have hc : (w.alloc (.cells #[.int .i64 x.1, .int .i64 x.2] 74)).cell? ⟨g, 0, none⟩ = some (.int .i64 N) := (World.cell?_alloc_some w _ _ (by rw [hg]; rfl)).trans hg
  have HB := hid ((Below.refl w.heap.size w).alloc (Nat.le_refl _) (.cells #[.int .i64 x.1, .int .i64 x.2] 74))
  have HE := hid (heap_alloc_new w (.cells #[.int .i64 x.1, .int .i64 x.2] 74))
  have e0 := cell_at HE.out (j := 0) rfl
  have e1 := cell_at HE.out (j := 1) rfl
  clear hg hgl
  go_enter Try.func31, Try.ntmps31
  go_wp2_with fail
  generalize w.alloc (.cells #[.int .i64 x.1, .int .i64 x.2] 74) = W1 at *
  try go_quiet (fail)
  try go_wp2_with fail
  go_ret
  exact ⟨rfl, by first | exact HB.out | exact HB.out.drew⟩
set_option maxHeartbeats 1600000 in
theorem one31 {w : World} {U q a name v} {l : List (Int × Int)} (h : CacheM w U q a name v l) (hlen : l.length ≤ 200) (i : Nat) (x : Int × Int) (hx : l[i]? = some x) (gb gs g : Nat) (N : Int) (hgb : w.cell? ⟨gb, 0, none⟩ = some (.func (.func 31) #[] #[.pointer (some ⟨g, 0, none⟩)])) (hgs : w.cell? ⟨gs, 0, none⟩ = some (.pointer (some ⟨q, 0, none⟩))) (hg : w.cell? ⟨g, 0, none⟩ = some (.int .i64 N)) :
    Calls Try.prog 50 #[.int .i64 (i : Int), .pointer (some ⟨gb, 0, none⟩), .pointer (some ⟨gs, 0, none⟩)] w fun en w' => en = .returned (.bool (decide (N ≤ x.2))) ∧ Below w.heap.size w w' := by
  have hil : i < l.length := (List.getElem?_eq_some_iff.1 hx).1
  obtain ⟨oa, cap, rfl, hcap, hcm, hnn, hoa⟩ := h.ents.shape
  obtain ⟨g2, rfl⟩ := hoa (by omega)
  obtain ⟨r0, r1⟩ := h.ents.at_ i x hx
  obtain ⟨k0, k1, k2⟩ := h.c
  have HC : Hid (∀ W, Below w.heap.size w W → Calls Try.prog 31 #[.agg #[.int .i64 x.1, .int .i64 x.2], .pointer (some ⟨g, 0, none⟩)] W fun en w' => en = .returned (.bool (decide (N ≤ x.2))) ∧ Below w.heap.size w w') := fun W hb =>
    (clo31 x N g W ((World.cell?_of_block (hb.block g (World.block_lt_of_cell? w _ hg))).trans hg)).mono fun e w' ⟨e1, e2⟩ => ⟨e1, hb.trans (e2.mono hb.size)⟩
  have hi2 : (i : Int) < (l.length : Int) := by omega
  clear h hx hoa
  have HK : Hid (∀ W, Below w.heap.size w W → ∀ p u, w.cell? p = some u → W.cell? p = some u) := fun W hb p u hu => (World.cell?_of_block (hb.block p.block (World.block_lt_of_cell? w _ hu))).trans hu
  go_enter Try.func50, Try.ntmps50
  go_wp2_with fail
  go_region_held3 (fun w' => w'.cell? ⟨gb, 0, none⟩ = some (.func (.func 31) #[] #[.pointer (some ⟨g, 0, none⟩)]) ∧ w'.cell? ⟨gs, 0, none⟩ = some (.pointer (some ⟨q, 0, none⟩)) ∧ w'.cell? ⟨q, 2, none⟩ = some (.slice (some ⟨g2, 0, none⟩) l.length cap) ∧ w'.cell? ⟨g2, i * 2, none⟩ = some (.int .i64 x.1) ∧ w'.cell? ⟨g2, i * 2 + 1, none⟩ = some (.int .i64 x.2)) (go_keep)
    (first
    | (go_at_call 31; refine (HC.out _ (by first | exact (Below.refl _ _) | exact (Below.refl _ _).drew)).mono ?_; rintro e w4 ⟨rfl, hb4⟩; have p0 := HK.out _ hb4 _ _ hgb; have p1 := HK.out _ hb4 _ _ hgs; have p2 := HK.out _ hb4 _ _ k2; have p3 := HK.out _ hb4 _ _ r0; have p4 := HK.out _ hb4 _ _ r1)
    | fail)
  all_goals
    go_wp2_with fail
    go_ret
    exact ⟨rfl, hb4⟩

set_option maxHeartbeats 800000 in
theorem clo33 (x : Int × Int) (N : Int) (g : Nat) (w : World) (hg : w.cell? ⟨g, 0, none⟩ = some (.int .i64 N)) :
    Calls Try.prog 33 #[.agg #[.int .i64 x.1, .int .i64 x.2], .pointer (some ⟨g, 0, none⟩)] w fun en w' => en = .returned (.bool (decide (N ≤ x.2))) ∧ Below w.heap.size w w' := by
  have hgl := World.new_ne w ⟨g, 0, none⟩ hg
  have hgl' : ¬ g = w.heap.size := fun h => hgl h.symm
  have hc : (w.alloc (.cells #[.int .i64 x.1, .int .i64 x.2] 74)).cell? ⟨g, 0, none⟩ = some (.int .i64 N) := (World.cell?_alloc_some w _ _ (by rw [hg]; rfl)).trans hg
  have HB := hid ((Below.refl w.heap.size w).alloc (Nat.le_refl _) (.cells #[.int .i64 x.1, .int .i64 x.2] 74))
  have HE := hid (heap_alloc_new w (.cells #[.int .i64 x.1, .int .i64 x.2] 74))
  have e0 := cell_at HE.out (j := 0) rfl
  have e1 := cell_at HE.out (j := 1) rfl
  clear hg hgl
  go_enter Try.func33, Try.ntmps33
  go_wp2_with fail
  generalize w.alloc (.cells #[.int .i64 x.1, .int .i64 x.2] 74) = W1 at *
  try go_quiet (fail)
  try go_wp2_with fail
  go_ret
  exact ⟨rfl, by first | exact HB.out | exact HB.out.drew⟩
set_option maxHeartbeats 1600000 in
theorem one33 {w : World} {U q a name v} {l : List (Int × Int)} (h : CacheM w U q a name v l) (hlen : l.length ≤ 200) (i : Nat) (x : Int × Int) (hx : l[i]? = some x) (gb gs g : Nat) (N : Int) (hgb : w.cell? ⟨gb, 0, none⟩ = some (.func (.func 33) #[] #[.pointer (some ⟨g, 0, none⟩)])) (hgs : w.cell? ⟨gs, 0, none⟩ = some (.pointer (some ⟨q, 0, none⟩))) (hg : w.cell? ⟨g, 0, none⟩ = some (.int .i64 N)) :
    Calls Try.prog 50 #[.int .i64 (i : Int), .pointer (some ⟨gb, 0, none⟩), .pointer (some ⟨gs, 0, none⟩)] w fun en w' => en = .returned (.bool (decide (N ≤ x.2))) ∧ Below w.heap.size w w' := by
  have hil : i < l.length := (List.getElem?_eq_some_iff.1 hx).1
  obtain ⟨oa, cap, rfl, hcap, hcm, hnn, hoa⟩ := h.ents.shape
  obtain ⟨g2, rfl⟩ := hoa (by omega)
  obtain ⟨r0, r1⟩ := h.ents.at_ i x hx
  obtain ⟨k0, k1, k2⟩ := h.c
  have HC : Hid (∀ W, Below w.heap.size w W → Calls Try.prog 33 #[.agg #[.int .i64 x.1, .int .i64 x.2], .pointer (some ⟨g, 0, none⟩)] W fun en w' => en = .returned (.bool (decide (N ≤ x.2))) ∧ Below w.heap.size w w') := fun W hb =>
    (clo33 x N g W ((World.cell?_of_block (hb.block g (World.block_lt_of_cell? w _ hg))).trans hg)).mono fun e w' ⟨e1, e2⟩ => ⟨e1, hb.trans (e2.mono hb.size)⟩
  have hi2 : (i : Int) < (l.length : Int) := by omega
  clear h hx hoa
  have HK : Hid (∀ W, Below w.heap.size w W → ∀ p u, w.cell? p = some u → W.cell? p = some u) := fun W hb p u hu => (World.cell?_of_block (hb.block p.block (World.block_lt_of_cell? w _ hu))).trans hu
  go_enter Try.func50, Try.ntmps50
  go_wp2_with fail
  go_region_held3 (fun w' => w'.cell? ⟨gb, 0, none⟩ = some (.func (.func 33) #[] #[.pointer (some ⟨g, 0, none⟩)]) ∧ w'.cell? ⟨gs, 0, none⟩ = some (.pointer (some ⟨q, 0, none⟩)) ∧ w'.cell? ⟨q, 2, none⟩ = some (.slice (some ⟨g2, 0, none⟩) l.length cap) ∧ w'.cell? ⟨g2, i * 2, none⟩ = some (.int .i64 x.1) ∧ w'.cell? ⟨g2, i * 2 + 1, none⟩ = some (.int .i64 x.2)) (go_keep)
    (first
    | (go_at_call 33; refine (HC.out _ (by first | exact (Below.refl _ _) | exact (Below.refl _ _).drew)).mono ?_; rintro e w4 ⟨rfl, hb4⟩; have p0 := HK.out _ hb4 _ _ hgb; have p1 := HK.out _ hb4 _ _ hgs; have p2 := HK.out _ hb4 _ _ k2; have p3 := HK.out _ hb4 _ _ r0; have p4 := HK.out _ hb4 _ _ r1)
    | fail)
  all_goals
    go_wp2_with fail
    go_ret
    exact ⟨rfl, hb4⟩

set_option maxHeartbeats 800000 in
theorem clo34 (x : Int × Int) (N : Int) (g : Nat) (w : World) (hg : w.cell? ⟨g, 0, none⟩ = some (.int .i64 N)) :
    Calls Try.prog 34 #[.agg #[.int .i64 x.1, .int .i64 x.2], .pointer (some ⟨g, 0, none⟩)] w fun en w' => en = .returned (.bool (decide (N < x.2))) ∧ Below w.heap.size w w' := by
  have hgl := World.new_ne w ⟨g, 0, none⟩ hg
  have hgl' : ¬ g = w.heap.size := fun h => hgl h.symm
  have hc : (w.alloc (.cells #[.int .i64 x.1, .int .i64 x.2] 74)).cell? ⟨g, 0, none⟩ = some (.int .i64 N) := (World.cell?_alloc_some w _ _ (by rw [hg]; rfl)).trans hg
  have HB := hid ((Below.refl w.heap.size w).alloc (Nat.le_refl _) (.cells #[.int .i64 x.1, .int .i64 x.2] 74))
  have HE := hid (heap_alloc_new w (.cells #[.int .i64 x.1, .int .i64 x.2] 74))
  have e0 := cell_at HE.out (j := 0) rfl
  have e1 := cell_at HE.out (j := 1) rfl
  clear hg hgl
  go_enter Try.func34, Try.ntmps34
  go_wp2_with fail
  generalize w.alloc (.cells #[.int .i64 x.1, .int .i64 x.2] 74) = W1 at *
  try go_quiet (fail)
  try go_wp2_with fail
  go_ret
  exact ⟨rfl, by first | exact HB.out | exact HB.out.drew⟩
set_option maxHeartbeats 1600000 in
theorem one34 {w : World} {U q a name v} {l : List (Int × Int)} (h : CacheM w U q a name v l) (hlen : l.length ≤ 200) (i : Nat) (x : Int × Int) (hx : l[i]? = some x) (gb gs g : Nat) (N : Int) (hgb : w.cell? ⟨gb, 0, none⟩ = some (.func (.func 34) #[] #[.pointer (some ⟨g, 0, none⟩)])) (hgs : w.cell? ⟨gs, 0, none⟩ = some (.pointer (some ⟨q, 0, none⟩))) (hg : w.cell? ⟨g, 0, none⟩ = some (.int .i64 N)) :
    Calls Try.prog 50 #[.int .i64 (i : Int), .pointer (some ⟨gb, 0, none⟩), .pointer (some ⟨gs, 0, none⟩)] w fun en w' => en = .returned (.bool (decide (N < x.2))) ∧ Below w.heap.size w w' := by
  have hil : i < l.length := (List.getElem?_eq_some_iff.1 hx).1
  obtain ⟨oa, cap, rfl, hcap, hcm, hnn, hoa⟩ := h.ents.shape
  obtain ⟨g2, rfl⟩ := hoa (by omega)
  obtain ⟨r0, r1⟩ := h.ents.at_ i x hx
  obtain ⟨k0, k1, k2⟩ := h.c
  have HC : Hid (∀ W, Below w.heap.size w W → Calls Try.prog 34 #[.agg #[.int .i64 x.1, .int .i64 x.2], .pointer (some ⟨g, 0, none⟩)] W fun en w' => en = .returned (.bool (decide (N < x.2))) ∧ Below w.heap.size w w') := fun W hb =>
    (clo34 x N g W ((World.cell?_of_block (hb.block g (World.block_lt_of_cell? w _ hg))).trans hg)).mono fun e w' ⟨e1, e2⟩ => ⟨e1, hb.trans (e2.mono hb.size)⟩
  have hi2 : (i : Int) < (l.length : Int) := by omega
  clear h hx hoa
  have HK : Hid (∀ W, Below w.heap.size w W → ∀ p u, w.cell? p = some u → W.cell? p = some u) := fun W hb p u hu => (World.cell?_of_block (hb.block p.block (World.block_lt_of_cell? w _ hu))).trans hu
  go_enter Try.func50, Try.ntmps50
  go_wp2_with fail
  go_region_held3 (fun w' => w'.cell? ⟨gb, 0, none⟩ = some (.func (.func 34) #[] #[.pointer (some ⟨g, 0, none⟩)]) ∧ w'.cell? ⟨gs, 0, none⟩ = some (.pointer (some ⟨q, 0, none⟩)) ∧ w'.cell? ⟨q, 2, none⟩ = some (.slice (some ⟨g2, 0, none⟩) l.length cap) ∧ w'.cell? ⟨g2, i * 2, none⟩ = some (.int .i64 x.1) ∧ w'.cell? ⟨g2, i * 2 + 1, none⟩ = some (.int .i64 x.2)) (go_keep)
    (first
    | (go_at_call 34; refine (HC.out _ (by first | exact (Below.refl _ _) | exact (Below.refl _ _).drew)).mono ?_; rintro e w4 ⟨rfl, hb4⟩; have p0 := HK.out _ hb4 _ _ hgb; have p1 := HK.out _ hb4 _ _ hgs; have p2 := HK.out _ hb4 _ _ k2; have p3 := HK.out _ hb4 _ _ r0; have p4 := HK.out _ hb4 _ _ r1)
    | fail)
  all_goals
    go_wp2_with fail
    go_ret
    exact ⟨rfl, hb4⟩

set_option maxHeartbeats 800000 in
theorem clo35 (x : Int × Int) (N : Int) (g : Nat) (w : World) (hg : w.cell? ⟨g, 0, none⟩ = some (.int .i64 N)) :
    Calls Try.prog 35 #[.agg #[.int .i64 x.1, .int .i64 x.2], .pointer (some ⟨g, 0, none⟩)] w fun en w' => en = .returned (.bool (decide (N < x.1))) ∧ Below w.heap.size w w' := by
  have hgl := World.new_ne w ⟨g, 0, none⟩ hg
  have hgl' : ¬ g = w.heap.size := fun h => hgl h.symm
  have hc : (w.alloc (.cells #[.int .i64 x.1, .int .i64 x.2] 74)).cell? ⟨g, 0, none⟩ = some (.int .i64 N) := (World.cell?_alloc_some w _ _ (by rw [hg]; rfl)).trans hg
  have HB := hid ((Below.refl w.heap.size w).alloc (Nat.le_refl _) (.cells #[.int .i64 x.1, .int .i64 x.2] 74))
  have HE := hid (heap_alloc_new w (.cells #[.int .i64 x.1, .int .i64 x.2] 74))
  have e0 := cell_at HE.out (j := 0) rfl
  have e1 := cell_at HE.out (j := 1) rfl
  clear hg hgl
  go_enter Try.func35, Try.ntmps35
  go_wp2_with fail
  generalize w.alloc (.cells #[.int .i64 x.1, .int .i64 x.2] 74) = W1 at *
  try go_quiet (fail)
  try go_wp2_with fail
  go_ret
  exact ⟨rfl, by first | exact HB.out | exact HB.out.drew⟩
set_option maxHeartbeats 1600000 in
theorem one35 {w : World} {U q a name v} {l : List (Int × Int)} (h : CacheM w U q a name v l) (hlen : l.length ≤ 200) (i : Nat) (x : Int × Int) (hx : l[i]? = some x) (gb gs g : Nat) (N : Int) (hgb : w.cell? ⟨gb, 0, none⟩ = some (.func (.func 35) #[] #[.pointer (some ⟨g, 0, none⟩)])) (hgs : w.cell? ⟨gs, 0, none⟩ = some (.pointer (some ⟨q, 0, none⟩))) (hg : w.cell? ⟨g, 0, none⟩ = some (.int .i64 N)) :
    Calls Try.prog 50 #[.int .i64 (i : Int), .pointer (some ⟨gb, 0, none⟩), .pointer (some ⟨gs, 0, none⟩)] w fun en w' => en = .returned (.bool (decide (N < x.1))) ∧ Below w.heap.size w w' := by
  have hil : i < l.length := (List.getElem?_eq_some_iff.1 hx).1
  obtain ⟨oa, cap, rfl, hcap, hcm, hnn, hoa⟩ := h.ents.shape
  obtain ⟨g2, rfl⟩ := hoa (by omega)
  obtain ⟨r0, r1⟩ := h.ents.at_ i x hx
  obtain ⟨k0, k1, k2⟩ := h.c
  have HC : Hid (∀ W, Below w.heap.size w W → Calls Try.prog 35 #[.agg #[.int .i64 x.1, .int .i64 x.2], .pointer (some ⟨g, 0, none⟩)] W fun en w' => en = .returned (.bool (decide (N < x.1))) ∧ Below w.heap.size w w') := fun W hb =>
    (clo35 x N g W ((World.cell?_of_block (hb.block g (World.block_lt_of_cell? w _ hg))).trans hg)).mono fun e w' ⟨e1, e2⟩ => ⟨e1, hb.trans (e2.mono hb.size)⟩
  have hi2 : (i : Int) < (l.length : Int) := by omega
  clear h hx hoa
  have HK : Hid (∀ W, Below w.heap.size w W → ∀ p u, w.cell? p = some u → W.cell? p = some u) := fun W hb p u hu => (World.cell?_of_block (hb.block p.block (World.block_lt_of_cell? w _ hu))).trans hu
  go_enter Try.func50, Try.ntmps50
  go_wp2_with fail
  go_region_held3 (fun w' => w'.cell? ⟨gb, 0, none⟩ = some (.func (.func 35) #[] #[.pointer (some ⟨g, 0, none⟩)]) ∧ w'.cell? ⟨gs, 0, none⟩ = some (.pointer (some ⟨q, 0, none⟩)) ∧ w'.cell? ⟨q, 2, none⟩ = some (.slice (some ⟨g2, 0, none⟩) l.length cap) ∧ w'.cell? ⟨g2, i * 2, none⟩ = some (.int .i64 x.1) ∧ w'.cell? ⟨g2, i * 2 + 1, none⟩ = some (.int .i64 x.2)) (go_keep)
    (first
    | (go_at_call 35; refine (HC.out _ (by first | exact (Below.refl _ _) | exact (Below.refl _ _).drew)).mono ?_; rintro e w4 ⟨rfl, hb4⟩; have p0 := HK.out _ hb4 _ _ hgb; have p1 := HK.out _ hb4 _ _ hgs; have p2 := HK.out _ hb4 _ _ k2; have p3 := HK.out _ hb4 _ _ r0; have p4 := HK.out _ hb4 _ _ r1)
    | fail)
  all_goals
    go_wp2_with fail
    go_ret
    exact ⟨rfl, hb4⟩

end Go.Proofs.Ytjggdecjnnpjaaa

