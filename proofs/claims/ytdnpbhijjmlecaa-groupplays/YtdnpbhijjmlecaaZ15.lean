/- The document's Apply: commits that come again, and others' parts. -/
import Derived.Test.YtdnpbhijjmlecaaZ11
namespace Go.Proofs.Ytdnpbhijjmlecaa
open Go.RowKit Go.Maps
set_option maxRecDepth 100000
set_option linter.unusedSimpArgs false
set_option linter.unusedVariables false

set_option maxHeartbeats 3200000 in
theorem rdup_any {w : World} {r : Nat} {vl : Value} {es : List Ent} {ep : Int} (h : DC w r vl es ep) (hf : es.length ≤ 1000) (m : Rc) (la : Option Addr) (lc : Nat) (x : Ent) (hx : findX es m.name = some x) (h1 : ¬ m.kind = 1) (h5 : ¬ m.kind = 5) (h2 : ¬ m.kind < 2) (h6 : ¬ 6 < m.kind) (h4 : ¬ m.kind = 4) (hk2 : ¬ m.kind = 2) (hb : hasB x.d.mem m.a = true) (hg : m.b = x.d.gen) (hk6 : ¬ m.kind = 6) (hl : IL w (.slice la m.list.length lc) m.list) (y : Int) (hy : m.list = [y]) (hd0 : ¬ m.d < 0) (hd1 : ¬ 1000000000 < m.d) (hy0 : ¬ y < 0) (hy1 : ¬ 1000000000 < y) (hnl : x.d.nums.length ≤ 100000) (hdup : y ≤ lastK (-1) x.d.nums m.a) : Calls Try.prog 13 #[.pointer (some ⟨r, 0, none⟩), recV m (.slice la m.list.length lc)] w fun e w' => ToldP (fun b => w.heap.size ≤ b) w' (errT 12) e ∧ Below w.heap.size w w' := by
  have HC := hid h
  have HFX := hid hx
  have hmem := findX_mem hx
  have HHB := hid hb
  clear hb
  obtain ⟨g, hgE⟩ : ∃ g, g = x.d.gen := ⟨_, rfl⟩
  have HGM : Hid (m.b = g) := hg.trans hgE.symm
  have HGE := hid hgE
  clear hgE hg
  have HY := hid hy
  clear hy
  obtain ⟨nn, hnE⟩ : ∃ nn, nn = lastK (-1) x.d.nums m.a := ⟨_, rfl⟩
  rw [← hnE] at hdup
  have HNN := hid hnE
  have HDUP := hid hdup
  clear hnE hdup
  have hT := tb8_new (fun _ => False) w (recA m (.slice la m.list.length lc)) zTd
  have HT := hid hT
  unfold recV recA zTd at *
  go_enter Try.func13, Try.ntmps13
  go_upto_region 1 with fail
  generalize (w.alloc (.cells #[.int .i64 m.kind, .int .i64 m.a, .int .i64 m.b, .int .i64 m.c, .int .i64 m.d, .string m.name, .string m.text, .slice la m.list.length lc] 32)).alloc (.cells #[.int .i64 0, .int .i64 0, .int .i64 0, .int .i64 0, .slice none 0 0] 38) = W at *
  have a0 := cell_blk HT.out.x 0 _ rfl
  have a1 := cell_blk HT.out.x 1 _ rfl
  have a2 := cell_blk HT.out.x 2 _ rfl
  have a3 := cell_blk HT.out.x 3 _ rfl
  have a4 := cell_blk HT.out.x 4 _ rfl
  have a5 := cell_blk HT.out.x 5 _ rfl
  have a6 := cell_blk HT.out.x 6 _ rfl
  have a7 := cell_blk HT.out.x 7 _ rfl
  have z0 := cell_blk HT.out.z 0 _ rfl
  have z1 := cell_blk HT.out.z 1 _ rfl
  have z2 := cell_blk HT.out.z 2 _ rfl
  have z3 := cell_blk HT.out.z 3 _ rfl
  have z4 := cell_blk HT.out.z 4 _ rfl
  have fz := frz_blk HT.out.z
  clear hT
  have HF := hid (rfind_any (HC.out.under HT.out.k.base) hf m.name)
  rw [HFX.out] at HF
  unfold findV at HF
  have HE : Hid (DgR W x.b x.n x.vm x.vp x.vo x.vn x.d) := (HC.out.each x hmem).under HT.out.k.base
  have hbl : x.b < w.heap.size := DgR.lt (HC.out.each x hmem)
  have hn1 : ¬ x.b = w.heap.size := by omega
  have hn2 : ¬ w.heap.size = x.b := by omega
  have hn3 : ¬ x.b = w.heap.size + 1 := by omega
  have hn4 : ¬ w.heap.size + 1 = x.b := by omega
  have c1 := HE.out.c1
  have c3 := HE.out.c3
  have hB0 : Below W.heap.size W W := Below.refl _ _
  clear h hx hmem
  rw [← HGE.out] at c1
  rw [HGM.out] at a2
  have hlen : m.list.length = 1 := by rw [HY.out]; rfl
  obtain ⟨lb, lo, rfl, hlc⟩ := (hl.under HT.out.k.base).cellAt 0 (by omega)
  have hy3 : m.list[0] = y := by simp [HY.out]
  rw [hy3, Nat.add_zero] at hlc
  clear hy3 hl
  rw [hlen] at a7
  have HLEN := hid hlen
  have hsl : Hid (W.cell? ⟨w.heap.size, 7, none⟩ = some (.slice (some ⟨lb, lo, none⟩) 1 lc)) := a7
  have HH : Hid (∀ V, Below W.heap.size W V → Calls Try.prog 28 #[x.vm, .int .i64 m.a] V fun e w' => e = .returned (.bool true) ∧ V = w') := fun V hV => by
    have := rhas_any (HE.out.il.under hV) m.a
    rw [HHB.out] at this
    exact this
  go_wp2_with fail
  refine HF.out.mono ?_
  rintro e w1 ⟨rfl, rfl⟩
  go_wp2_with fail
  go_region_held3 (fun V => V.cell? ⟨x.b, 3, none⟩ = some x.vm ∧ V.cell? ⟨w.heap.size, 1, none⟩ = some (.int .i64 m.a)) (go_keep)
    (first | (go_at_call 28; refine (HH.out _ (by first | exact hB0 | exact hB0.drew)).mono ?_; rintro e w1 ⟨rfl, rfl⟩) | fail)
  go_wp2_with fail
  go_region_held3 (fun V => V.cell? ⟨x.b, 1, none⟩ = some (.int .i64 g) ∧ V.cell? ⟨w.heap.size, 2, none⟩ = some (.int .i64 g)) (go_keep) (fail)
  go_wp2_with fail
  have HN : Hid (∀ V, Below W.heap.size W V → Calls Try.prog 30 #[.pointer (some ⟨x.b, 0, none⟩), .int .i64 m.a] V fun e w' => e = .returned (.int .i64 nn) ∧ V = w') := by rw [HNN.out]; exact fun V hV => rnumber_any (HE.out.under hV) hnl m.a
  have hdup := HDUP.out
  go_region_held3 (fun V => V.cell? ⟨w.heap.size, 7, none⟩ = some (.slice (some ⟨lb, lo, none⟩) 1 lc) ∧ V.cell? ⟨lb, lo, none⟩ = some (.int .i64 y) ∧ V.cell? ⟨w.heap.size, 1, none⟩ = some (.int .i64 m.a)) (go_keep)
    (first | (go_at_call 30; refine (HN.out _ (by repeat (first | exact hB0 | apply Below.drew))).mono ?_; rintro e w5 ⟨rfl, rfl⟩) | fail)
  go_wp2_with fail
  have HT5 := hid ((HT.out).five rfl (.int .i64 12) (.int .i64 0) (.int .i64 0) (.int .i64 0) (.slice none 0 0))
  unfold five at HT5
  generalize ((((W.setCell ⟨w.heap.size + 1, 0, none⟩ (.int .i64 12)).setCell ⟨w.heap.size + 1, 1, none⟩ (.int .i64 0)).setCell ⟨w.heap.size + 1, 2, none⟩ (.int .i64 0)).setCell ⟨w.heap.size + 1, 3, none⟩ (.int .i64 0)).setCell ⟨w.heap.size + 1, 4, none⟩ (.slice none 0 0) = N5 at *
  have r0 := cell_blk HT5.out.z 0 _ rfl
  have r1 := cell_blk HT5.out.z 1 _ rfl
  have r2 := cell_blk HT5.out.z 2 _ rfl
  have r3 := cell_blk HT5.out.z 3 _ rfl
  have r4 := cell_blk HT5.out.z 4 _ rfl
  exact bodyPost_ret (v := .agg #[.int .i64 12, .int .i64 0, .int .i64 0, .int .i64 0, .slice none 0 0]) (by simp [results, Try.results13, go_sem, r0, r1, r2, r3, r4]) rfl (⟨told_nil, by first | exact HT5.out.k.base | exact HT5.out.k.base.drew | exact HT5.out.k.base.drew.drew | exact HT5.out.k.base.drew.drew.drew | exact below_drewN HT5.out.k.base _⟩)
set_option maxHeartbeats 3200000 in
theorem rstate_any {w : World} {r : Nat} {vl : Value} {es : List Ent} {ep : Int} (h : DC w r vl es ep) (hf : es.length ≤ 1000) (m : Rc) (la : Option Addr) (lc : Nat) (x : Ent) (hx : findX es m.name = some x) (h1 : ¬ m.kind = 1) (h5 : ¬ m.kind = 5) (h2 : ¬ m.kind < 2) (h6 : ¬ 6 < m.kind) (h4 : ¬ m.kind = 4) (hk2 : ¬ m.kind = 2) (hb : hasB x.d.mem m.a = true) (hg : m.b = x.d.gen) (hk6 : ¬ m.kind = 6) (hl : IL w (.slice la m.list.length lc) m.list) (y : Int) (hy : m.list = [y]) (hd0 : ¬ m.d < 0) (hd1 : ¬ 1000000000 < m.d) (hy0 : ¬ y < 0) (hy1 : ¬ 1000000000 < y) (hnl : x.d.nums.length ≤ 100000) (hdup : ¬ y ≤ lastK (-1) x.d.nums m.a) (hown : ¬ ownD x.d.mem x.d.parts m.c x.d.mem = m.a) : Calls Try.prog 13 #[.pointer (some ⟨r, 0, none⟩), recV m (.slice la m.list.length lc)] w fun e w' => ToldP (fun b => w.heap.size ≤ b) w' (errT 19) e ∧ Below w.heap.size w w' := by
  have HC := hid h
  have HFX := hid hx
  have hmem := findX_mem hx
  have HHB := hid hb
  clear hb
  obtain ⟨g, hgE⟩ : ∃ g, g = x.d.gen := ⟨_, rfl⟩
  have HGM : Hid (m.b = g) := hg.trans hgE.symm
  have HGE := hid hgE
  clear hgE hg
  have HY := hid hy
  clear hy
  obtain ⟨nn, hnE⟩ : ∃ nn, nn = lastK (-1) x.d.nums m.a := ⟨_, rfl⟩
  rw [← hnE] at hdup
  have HNN := hid hnE
  have HDUP := hid hdup
  obtain ⟨oo, hoE⟩ : ∃ oo, oo = ownD x.d.mem x.d.parts m.c x.d.mem := ⟨_, rfl⟩
  rw [← hoE] at hown
  have HOO := hid hoE
  have HOWN := hid hown
  clear hnE hdup hoE hown
  have hT := tb8_new (fun _ => False) w (recA m (.slice la m.list.length lc)) zTd
  have HT := hid hT
  unfold recV recA zTd at *
  go_enter Try.func13, Try.ntmps13
  go_upto_region 1 with fail
  generalize (w.alloc (.cells #[.int .i64 m.kind, .int .i64 m.a, .int .i64 m.b, .int .i64 m.c, .int .i64 m.d, .string m.name, .string m.text, .slice la m.list.length lc] 32)).alloc (.cells #[.int .i64 0, .int .i64 0, .int .i64 0, .int .i64 0, .slice none 0 0] 38) = W at *
  have a0 := cell_blk HT.out.x 0 _ rfl
  have a1 := cell_blk HT.out.x 1 _ rfl
  have a2 := cell_blk HT.out.x 2 _ rfl
  have a3 := cell_blk HT.out.x 3 _ rfl
  have a4 := cell_blk HT.out.x 4 _ rfl
  have a5 := cell_blk HT.out.x 5 _ rfl
  have a6 := cell_blk HT.out.x 6 _ rfl
  have a7 := cell_blk HT.out.x 7 _ rfl
  have z0 := cell_blk HT.out.z 0 _ rfl
  have z1 := cell_blk HT.out.z 1 _ rfl
  have z2 := cell_blk HT.out.z 2 _ rfl
  have z3 := cell_blk HT.out.z 3 _ rfl
  have z4 := cell_blk HT.out.z 4 _ rfl
  have fz := frz_blk HT.out.z
  clear hT
  have HF := hid (rfind_any (HC.out.under HT.out.k.base) hf m.name)
  rw [HFX.out] at HF
  unfold findV at HF
  have HE : Hid (DgR W x.b x.n x.vm x.vp x.vo x.vn x.d) := (HC.out.each x hmem).under HT.out.k.base
  have hbl : x.b < w.heap.size := DgR.lt (HC.out.each x hmem)
  have hn1 : ¬ x.b = w.heap.size := by omega
  have hn2 : ¬ w.heap.size = x.b := by omega
  have hn3 : ¬ x.b = w.heap.size + 1 := by omega
  have hn4 : ¬ w.heap.size + 1 = x.b := by omega
  have c1 := HE.out.c1
  have c3 := HE.out.c3
  have hB0 : Below W.heap.size W W := Below.refl _ _
  clear h hx hmem
  rw [← HGE.out] at c1
  rw [HGM.out] at a2
  have hlen : m.list.length = 1 := by rw [HY.out]; rfl
  obtain ⟨lb, lo, rfl, hlc⟩ := (hl.under HT.out.k.base).cellAt 0 (by omega)
  have hy3 : m.list[0] = y := by simp [HY.out]
  rw [hy3, Nat.add_zero] at hlc
  clear hy3 hl
  rw [hlen] at a7
  have HLEN := hid hlen
  have hsl : Hid (W.cell? ⟨w.heap.size, 7, none⟩ = some (.slice (some ⟨lb, lo, none⟩) 1 lc)) := a7
  have HH : Hid (∀ V, Below W.heap.size W V → Calls Try.prog 28 #[x.vm, .int .i64 m.a] V fun e w' => e = .returned (.bool true) ∧ V = w') := fun V hV => by
    have := rhas_any (HE.out.il.under hV) m.a
    rw [HHB.out] at this
    exact this
  go_wp2_with fail
  refine HF.out.mono ?_
  rintro e w1 ⟨rfl, rfl⟩
  go_wp2_with fail
  go_region_held3 (fun V => V.cell? ⟨x.b, 3, none⟩ = some x.vm ∧ V.cell? ⟨w.heap.size, 1, none⟩ = some (.int .i64 m.a)) (go_keep)
    (first | (go_at_call 28; refine (HH.out _ (by first | exact hB0 | exact hB0.drew)).mono ?_; rintro e w1 ⟨rfl, rfl⟩) | fail)
  go_wp2_with fail
  go_region_held3 (fun V => V.cell? ⟨x.b, 1, none⟩ = some (.int .i64 g) ∧ V.cell? ⟨w.heap.size, 2, none⟩ = some (.int .i64 g)) (go_keep) (fail)
  go_wp2_with fail
  have HN : Hid (∀ V, Below W.heap.size W V → Calls Try.prog 30 #[.pointer (some ⟨x.b, 0, none⟩), .int .i64 m.a] V fun e w' => e = .returned (.int .i64 nn) ∧ V = w') := by rw [HNN.out]; exact fun V hV => rnumber_any (HE.out.under hV) hnl m.a
  have hdup := HDUP.out
  go_region_held3 (fun V => V.cell? ⟨w.heap.size, 7, none⟩ = some (.slice (some ⟨lb, lo, none⟩) 1 lc) ∧ V.cell? ⟨lb, lo, none⟩ = some (.int .i64 y) ∧ V.cell? ⟨w.heap.size, 1, none⟩ = some (.int .i64 m.a)) (go_keep)
    (first | (go_at_call 30; refine (HN.out _ (by repeat (first | exact hB0 | apply Below.drew))).mono ?_; rintro e w5 ⟨rfl, rfl⟩) | fail)
  go_wp2_with fail
  have HO : Hid (∀ V, Below W.heap.size W V → Calls Try.prog 31 #[.pointer (some ⟨x.b, 0, none⟩), .int .i64 m.c] V fun e w' => e = .returned (.int .i64 oo) ∧ Below V.heap.size V w') := by rw [HOO.out]; exact fun V hV => rowner_any (HE.out.under hV) m.c
  have hown := HOWN.out
  go_region_held3 (fun V => V.cell? ⟨w.heap.size, 3, none⟩ = some (.int .i64 m.c) ∧ V.cell? ⟨w.heap.size, 1, none⟩ = some (.int .i64 m.a)) (go_keep)
    (first | (go_at_call 31; refine (HO.out _ (by repeat (first | exact hB0 | apply Below.drew))).mono ?_; rintro e w6 ⟨rfl, hb6⟩; have hB6 := (show Below W.heap.size W _ by repeat (first | exact hB0 | apply Below.drew)).trans hb6; have HT6 := hid (HT.out.under hB6); clear a0 a1 a2 a3 a4 a5 a6 a7 z0 z1 z2 z3 z4 fz; have a1 := cell_blk HT6.out.x 1 _ rfl; have a3 := cell_blk HT6.out.x 3 _ rfl; have z0 := cell_blk HT6.out.z 0 _ rfl; have z1 := cell_blk HT6.out.z 1 _ rfl; have z2 := cell_blk HT6.out.z 2 _ rfl; have z3 := cell_blk HT6.out.z 3 _ rfl; have z4 := cell_blk HT6.out.z 4 _ rfl; have fz := frz_blk HT6.out.z) | fail)
  go_wp2_with fail
  have HT5 := hid ((HT6.out).five rfl (.int .i64 19) (.int .i64 0) (.int .i64 0) (.int .i64 0) (.slice none 0 0))
  unfold five at HT5
  generalize ((((w6.setCell ⟨w.heap.size + 1, 0, none⟩ (.int .i64 19)).setCell ⟨w.heap.size + 1, 1, none⟩ (.int .i64 0)).setCell ⟨w.heap.size + 1, 2, none⟩ (.int .i64 0)).setCell ⟨w.heap.size + 1, 3, none⟩ (.int .i64 0)).setCell ⟨w.heap.size + 1, 4, none⟩ (.slice none 0 0) = N5 at *
  have r0 := cell_blk HT5.out.z 0 _ rfl
  have r1 := cell_blk HT5.out.z 1 _ rfl
  have r2 := cell_blk HT5.out.z 2 _ rfl
  have r3 := cell_blk HT5.out.z 3 _ rfl
  have r4 := cell_blk HT5.out.z 4 _ rfl
  exact bodyPost_ret (v := .agg #[.int .i64 19, .int .i64 0, .int .i64 0, .int .i64 0, .slice none 0 0]) (by simp [results, Try.results13, go_sem, r0, r1, r2, r3, r4]) rfl (⟨told_nil, by first | exact HT5.out.k.base | exact HT5.out.k.base.drew | exact HT5.out.k.base.drew.drew | exact HT5.out.k.base.drew.drew.drew | exact below_drewN HT5.out.k.base _⟩)
end Go.Proofs.Ytdnpbhijjmlecaa

