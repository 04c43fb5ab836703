/- What seek asks. -/
import Derived.Test.YtlgaianlkbaedaaH23
import Derived.Deep.RegionHeld
namespace Go.Proofs.Ytlgaianlkbaedaa
open Go.RowKit Go.Maps Go.Sort
set_option maxRecDepth 100000
set_option linter.unusedSimpArgs false
set_option linter.unusedVariables false

set_option maxHeartbeats 800000 in
theorem safe1_any (e : Mk) (N : Int) (g : Nat) (w : World) (hg : w.cell? ⟨g, 0, none⟩ = some (.int .i64 N)) :
    Calls Try.prog 40 #[.agg #[.int .i64 (e.base : Int), .int .i64 (e.at_ : Int), .int .i64 (e.nth : Int)], .pointer (some ⟨g, 0, none⟩)] w fun en w' => en = .returned (.bool (decide (N < (e.at_ : Int)))) ∧ Below w.heap.size w w' := by
  have hgl := World.new_ne w ⟨g, 0, none⟩ hg
  have hgl' : ¬ g = w.heap.size := fun h => hgl h.symm
  have hc : (w.alloc (.cells #[.int .i64 (e.base : Int), .int .i64 (e.at_ : Int), .int .i64 (e.nth : Int)] 61)).cell? ⟨g, 0, none⟩ = some (.int .i64 N) := (World.cell?_alloc_some w _ _ (by rw [hg]; rfl)).trans hg
  have HB := hid ((Below.refl w.heap.size w).alloc (Nat.le_refl _) (.cells #[.int .i64 (e.base : Int), .int .i64 (e.at_ : Int), .int .i64 (e.nth : Int)] 61))
  have HE := hid (heap_alloc_new w (.cells #[.int .i64 (e.base : Int), .int .i64 (e.at_ : Int), .int .i64 (e.nth : Int)] 61))
  have e0 := cell_at HE.out (j := 0) rfl
  have e1 := cell_at HE.out (j := 1) rfl
  clear hg hgl
  go_enter Try.func40, Try.ntmps40
  go_wp2_with fail
  generalize w.alloc (.cells #[.int .i64 (e.base : Int), .int .i64 (e.at_ : Int), .int .i64 (e.nth : Int)] 61) = W1 at *
  try go_quiet (fail)
  try go_wp2_with fail
  go_ret
  exact ⟨rfl, by first | exact HB.out | exact below_drewN HB.out _⟩
set_option maxHeartbeats 800000 in
theorem read1_any (e : Mk) (N : Int) (g : Nat) (w : World) (hg : w.cell? ⟨g, 0, none⟩ = some (.int .i64 N)) :
    Calls Try.prog 41 #[.agg #[.int .i64 (e.base : Int), .int .i64 (e.at_ : Int), .int .i64 (e.nth : Int)], .pointer (some ⟨g, 0, none⟩)] w fun en w' => en = .returned (.bool (decide (N < (e.base : Int)))) ∧ Below w.heap.size w w' := by
  have hgl := World.new_ne w ⟨g, 0, none⟩ hg
  have hgl' : ¬ g = w.heap.size := fun h => hgl h.symm
  have hc : (w.alloc (.cells #[.int .i64 (e.base : Int), .int .i64 (e.at_ : Int), .int .i64 (e.nth : Int)] 61)).cell? ⟨g, 0, none⟩ = some (.int .i64 N) := (World.cell?_alloc_some w _ _ (by rw [hg]; rfl)).trans hg
  have HB := hid ((Below.refl w.heap.size w).alloc (Nat.le_refl _) (.cells #[.int .i64 (e.base : Int), .int .i64 (e.at_ : Int), .int .i64 (e.nth : Int)] 61))
  have HE := hid (heap_alloc_new w (.cells #[.int .i64 (e.base : Int), .int .i64 (e.at_ : Int), .int .i64 (e.nth : Int)] 61))
  have e0 := cell_at HE.out (j := 0) rfl
  have e1 := cell_at HE.out (j := 1) rfl
  clear hg hgl
  go_enter Try.func41, Try.ntmps41
  go_wp2_with fail
  generalize w.alloc (.cells #[.int .i64 (e.base : Int), .int .i64 (e.at_ : Int), .int .i64 (e.nth : Int)] 61) = W1 at *
  try go_quiet (fail)
  try go_wp2_with fail
  go_ret
  exact ⟨rfl, by first | exact HB.out | exact below_drewN HB.out _⟩
set_option maxHeartbeats 800000 in
theorem cut1_any (e : Mk) (N : Int) (g : Nat) (w : World) (hg : w.cell? ⟨g, 0, none⟩ = some (.int .i64 N)) :
    Calls Try.prog 44 #[.agg #[.int .i64 (e.base : Int), .int .i64 (e.at_ : Int), .int .i64 (e.nth : Int)], .pointer (some ⟨g, 0, none⟩)] w fun en w' => en = .returned (.bool (decide (N < (e.base : Int)))) ∧ Below w.heap.size w w' := by
  have hgl := World.new_ne w ⟨g, 0, none⟩ hg
  have hgl' : ¬ g = w.heap.size := fun h => hgl h.symm
  have hc : (w.alloc (.cells #[.int .i64 (e.base : Int), .int .i64 (e.at_ : Int), .int .i64 (e.nth : Int)] 61)).cell? ⟨g, 0, none⟩ = some (.int .i64 N) := (World.cell?_alloc_some w _ _ (by rw [hg]; rfl)).trans hg
  have HB := hid ((Below.refl w.heap.size w).alloc (Nat.le_refl _) (.cells #[.int .i64 (e.base : Int), .int .i64 (e.at_ : Int), .int .i64 (e.nth : Int)] 61))
  have HE := hid (heap_alloc_new w (.cells #[.int .i64 (e.base : Int), .int .i64 (e.at_ : Int), .int .i64 (e.nth : Int)] 61))
  have e0 := cell_at HE.out (j := 0) rfl
  have e1 := cell_at HE.out (j := 1) rfl
  clear hg hgl
  go_enter Try.func44, Try.ntmps44
  go_wp2_with fail
  generalize w.alloc (.cells #[.int .i64 (e.base : Int), .int .i64 (e.at_ : Int), .int .i64 (e.nth : Int)] 61) = W1 at *
  try go_quiet (fail)
  try go_wp2_with fail
  go_ret
  exact ⟨rfl, by first | exact HB.out | exact below_drewN HB.out _⟩
set_option maxHeartbeats 1600000 in
theorem seek1_40 {w : World} {U q a base name m v} {ix : List Mk} (h : SegM w U q a base name m v ix) (hlen : ix.length ≤ 5000) (i : Nat) (x : Mk) (hx : ix[i]? = some x) (gb gs g : Nat) (N : Int) (hgb : w.cell? ⟨gb, 0, none⟩ = some (.func (.func 40) #[] #[.pointer (some ⟨g, 0, none⟩)])) (hgs : w.cell? ⟨gs, 0, none⟩ = some (.pointer (some ⟨q, 0, none⟩))) (hg : w.cell? ⟨g, 0, none⟩ = some (.int .i64 N)) :
    Calls Try.prog 57 #[.int .i64 (i : Int), .pointer (some ⟨gb, 0, none⟩), .pointer (some ⟨gs, 0, none⟩)] w fun en w' => en = .returned (.bool (decide (N < (x.at_ : Int)))) ∧ Below w.heap.size w w' := by
  have hil : i < ix.length := (List.getElem?_eq_some_iff.1 hx).1
  obtain ⟨oa, cap, rfl, hcap, hcm, hoa⟩ := h.shape
  obtain ⟨g2, rfl⟩ := hoa (by omega)
  obtain ⟨r0, r1, r2⟩ := h.at_ i x hx
  obtain ⟨k0, k1, k2, k3, k4, k5, k6⟩ := h.c
  have HC : Hid (∀ W, Below w.heap.size w W → Calls Try.prog 40 #[.agg #[.int .i64 (x.base : Int), .int .i64 (x.at_ : Int), .int .i64 (x.nth : Int)], .pointer (some ⟨g, 0, none⟩)] W fun en w' => en = .returned (.bool (decide (N < (x.at_ : Int)))) ∧ Below w.heap.size w w') := fun W hb =>
    (safe1_any x N g W ((World.cell?_of_block (hb.block g (World.block_lt_of_cell? w _ hg))).trans hg)).mono fun e w' ⟨e1, e2⟩ => ⟨e1, hb.trans (e2.mono hb.size)⟩
  have hi2 : (i : Int) < (ix.length : Int) := by omega
  clear h hx hoa
  have HK : Hid (∀ W, Below w.heap.size w W → ∀ p u, w.cell? p = some u → W.cell? p = some u) := fun W hb p u hu => (World.cell?_of_block (hb.block p.block (World.block_lt_of_cell? w _ hu))).trans hu
  go_enter Try.func57, Try.ntmps57
  go_wp2_with fail
  go_region_held3 (fun w' => w'.cell? ⟨gb, 0, none⟩ = some (.func (.func 40) #[] #[.pointer (some ⟨g, 0, none⟩)]) ∧ w'.cell? ⟨gs, 0, none⟩ = some (.pointer (some ⟨q, 0, none⟩)) ∧ w'.cell? ⟨q, 6, none⟩ = some (.slice (some ⟨g2, 0, none⟩) ix.length cap) ∧ w'.cell? ⟨g2, i * 3, none⟩ = some (.int .i64 (x.base : Int)) ∧ w'.cell? ⟨g2, i * 3 + 1, none⟩ = some (.int .i64 (x.at_ : Int)) ∧ w'.cell? ⟨g2, i * 3 + 2, none⟩ = some (.int .i64 (x.nth : Int))) (go_keep)
    (first
    | (go_at_call 40; refine (HC.out _ (by first | exact (Below.refl _ _) | exact (Below.refl _ _).drew)).mono ?_; rintro e w4 ⟨rfl, hb4⟩; have p0 := HK.out _ hb4 _ _ hgb; have p1 := HK.out _ hb4 _ _ hgs; have p2 := HK.out _ hb4 _ _ k6; have p3 := HK.out _ hb4 _ _ r0; have p4 := HK.out _ hb4 _ _ r1; have p5 := HK.out _ hb4 _ _ r2)
    | fail)
  all_goals
    go_wp2_with fail
    go_ret
    exact ⟨rfl, hb4⟩
set_option maxHeartbeats 1600000 in
theorem seek1_41 {w : World} {U q a base name m v} {ix : List Mk} (h : SegM w U q a base name m v ix) (hlen : ix.length ≤ 5000) (i : Nat) (x : Mk) (hx : ix[i]? = some x) (gb gs g : Nat) (N : Int) (hgb : w.cell? ⟨gb, 0, none⟩ = some (.func (.func 41) #[] #[.pointer (some ⟨g, 0, none⟩)])) (hgs : w.cell? ⟨gs, 0, none⟩ = some (.pointer (some ⟨q, 0, none⟩))) (hg : w.cell? ⟨g, 0, none⟩ = some (.int .i64 N)) :
    Calls Try.prog 57 #[.int .i64 (i : Int), .pointer (some ⟨gb, 0, none⟩), .pointer (some ⟨gs, 0, none⟩)] w fun en w' => en = .returned (.bool (decide (N < (x.base : Int)))) ∧ Below w.heap.size w w' := by
  have hil : i < ix.length := (List.getElem?_eq_some_iff.1 hx).1
  obtain ⟨oa, cap, rfl, hcap, hcm, hoa⟩ := h.shape
  obtain ⟨g2, rfl⟩ := hoa (by omega)
  obtain ⟨r0, r1, r2⟩ := h.at_ i x hx
  obtain ⟨k0, k1, k2, k3, k4, k5, k6⟩ := h.c
  have HC : Hid (∀ W, Below w.heap.size w W → Calls Try.prog 41 #[.agg #[.int .i64 (x.base : Int), .int .i64 (x.at_ : Int), .int .i64 (x.nth : Int)], .pointer (some ⟨g, 0, none⟩)] W fun en w' => en = .returned (.bool (decide (N < (x.base : Int)))) ∧ Below w.heap.size w w') := fun W hb =>
    (read1_any x N g W ((World.cell?_of_block (hb.block g (World.block_lt_of_cell? w _ hg))).trans hg)).mono fun e w' ⟨e1, e2⟩ => ⟨e1, hb.trans (e2.mono hb.size)⟩
  have hi2 : (i : Int) < (ix.length : Int) := by omega
  clear h hx hoa
  have HK : Hid (∀ W, Below w.heap.size w W → ∀ p u, w.cell? p = some u → W.cell? p = some u) := fun W hb p u hu => (World.cell?_of_block (hb.block p.block (World.block_lt_of_cell? w _ hu))).trans hu
  go_enter Try.func57, Try.ntmps57
  go_wp2_with fail
  go_region_held3 (fun w' => w'.cell? ⟨gb, 0, none⟩ = some (.func (.func 41) #[] #[.pointer (some ⟨g, 0, none⟩)]) ∧ w'.cell? ⟨gs, 0, none⟩ = some (.pointer (some ⟨q, 0, none⟩)) ∧ w'.cell? ⟨q, 6, none⟩ = some (.slice (some ⟨g2, 0, none⟩) ix.length cap) ∧ w'.cell? ⟨g2, i * 3, none⟩ = some (.int .i64 (x.base : Int)) ∧ w'.cell? ⟨g2, i * 3 + 1, none⟩ = some (.int .i64 (x.at_ : Int)) ∧ w'.cell? ⟨g2, i * 3 + 2, none⟩ = some (.int .i64 (x.nth : Int))) (go_keep)
    (first
    | (go_at_call 41; refine (HC.out _ (by first | exact (Below.refl _ _) | exact (Below.refl _ _).drew)).mono ?_; rintro e w4 ⟨rfl, hb4⟩; have p0 := HK.out _ hb4 _ _ hgb; have p1 := HK.out _ hb4 _ _ hgs; have p2 := HK.out _ hb4 _ _ k6; have p3 := HK.out _ hb4 _ _ r0; have p4 := HK.out _ hb4 _ _ r1; have p5 := HK.out _ hb4 _ _ r2)
    | fail)
  all_goals
    go_wp2_with fail
    go_ret
    exact ⟨rfl, hb4⟩
set_option maxHeartbeats 1600000 in
theorem seek1_44 {w : World} {U q a base name m v} {ix : List Mk} (h : SegM w U q a base name m v ix) (hlen : ix.length ≤ 5000) (i : Nat) (x : Mk) (hx : ix[i]? = some x) (gb gs g : Nat) (N : Int) (hgb : w.cell? ⟨gb, 0, none⟩ = some (.func (.func 44) #[] #[.pointer (some ⟨g, 0, none⟩)])) (hgs : w.cell? ⟨gs, 0, none⟩ = some (.pointer (some ⟨q, 0, none⟩))) (hg : w.cell? ⟨g, 0, none⟩ = some (.int .i64 N)) :
    Calls Try.prog 57 #[.int .i64 (i : Int), .pointer (some ⟨gb, 0, none⟩), .pointer (some ⟨gs, 0, none⟩)] w fun en w' => en = .returned (.bool (decide (N < (x.base : Int)))) ∧ Below w.heap.size w w' := by
  have hil : i < ix.length := (List.getElem?_eq_some_iff.1 hx).1
  obtain ⟨oa, cap, rfl, hcap, hcm, hoa⟩ := h.shape
  obtain ⟨g2, rfl⟩ := hoa (by omega)
  obtain ⟨r0, r1, r2⟩ := h.at_ i x hx
  obtain ⟨k0, k1, k2, k3, k4, k5, k6⟩ := h.c
  have HC : Hid (∀ W, Below w.heap.size w W → Calls Try.prog 44 #[.agg #[.int .i64 (x.base : Int), .int .i64 (x.at_ : Int), .int .i64 (x.nth : Int)], .pointer (some ⟨g, 0, none⟩)] W fun en w' => en = .returned (.bool (decide (N < (x.base : Int)))) ∧ Below w.heap.size w w') := fun W hb =>
    (cut1_any x N g W ((World.cell?_of_block (hb.block g (World.block_lt_of_cell? w _ hg))).trans hg)).mono fun e w' ⟨e1, e2⟩ => ⟨e1, hb.trans (e2.mono hb.size)⟩
  have hi2 : (i : Int) < (ix.length : Int) := by omega
  clear h hx hoa
  have HK : Hid (∀ W, Below w.heap.size w W → ∀ p u, w.cell? p = some u → W.cell? p = some u) := fun W hb p u hu => (World.cell?_of_block (hb.block p.block (World.block_lt_of_cell? w _ hu))).trans hu
  go_enter Try.func57, Try.ntmps57
  go_wp2_with fail
  go_region_held3 (fun w' => w'.cell? ⟨gb, 0, none⟩ = some (.func (.func 44) #[] #[.pointer (some ⟨g, 0, none⟩)]) ∧ w'.cell? ⟨gs, 0, none⟩ = some (.pointer (some ⟨q, 0, none⟩)) ∧ w'.cell? ⟨q, 6, none⟩ = some (.slice (some ⟨g2, 0, none⟩) ix.length cap) ∧ w'.cell? ⟨g2, i * 3, none⟩ = some (.int .i64 (x.base : Int)) ∧ w'.cell? ⟨g2, i * 3 + 1, none⟩ = some (.int .i64 (x.at_ : Int)) ∧ w'.cell? ⟨g2, i * 3 + 2, none⟩ = some (.int .i64 (x.nth : Int))) (go_keep)
    (first
    | (go_at_call 44; refine (HC.out _ (by first | exact (Below.refl _ _) | exact (Below.refl _ _).drew)).mono ?_; rintro e w4 ⟨rfl, hb4⟩; have p0 := HK.out _ hb4 _ _ hgb; have p1 := HK.out _ hb4 _ _ hgs; have p2 := HK.out _ hb4 _ _ k6; have p3 := HK.out _ hb4 _ _ r0; have p4 := HK.out _ hb4 _ _ r1; have p5 := HK.out _ hb4 _ _ r2)
    | fail)
  all_goals
    go_wp2_with fail
    go_ret
    exact ⟨rfl, hb4⟩

end Go.Proofs.Ytlgaianlkbaedaa

