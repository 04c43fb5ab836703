/- The chapter's examples: the walk. -/
import Derived.Test.YtfahepeemodcbaaM12
namespace Go.Proofs.Ytfahepeemodcbaa
open Go.RowKit Go.Maps
set_option linter.unusedSimpArgs false
set_option linter.unusedVariables false
set_option maxRecDepth 100000

set_option maxHeartbeats 12800000 in
theorem shown_any (w : World) : Calls Try.prog 9 #[] w fun e w' => e = .returned (.bool true) ∧ Below w.heap.size w w' := by
  have HB0 : Hid (Below w.heap.size w (w.alloc (.cells #[.int .i64 1, .int .i64 2, .int .i64 3, .int .i64 4] 3))) := (Below.refl _ _).alloc (Nat.le_refl _) _
  have HU0 : Hid (IL (w.alloc (.cells #[.int .i64 1, .int .i64 2, .int .i64 3, .int .i64 4] 3)) (.slice (some ⟨w.heap.size, 0, none⟩) 4 4) [1, 2, 3, 4]) := il_lit [1, 2, 3, 4] (heap_alloc_new w _) (lit64 _ rfl) (by decide)
  go_enter Try.func9, Try.ntmps9
  go_wp2_with fail
  generalize w.alloc (.cells #[.int .i64 1, .int .i64 2, .int .i64 3, .int .i64 4] 3) = W0 at *
  refine (known_any _).mono ?_
  rintro e V0 ⟨v0, rfl, p0, b0⟩
  have HPK := hid p0
  have HBK := hid b0
  clear p0 b0
  go_wp2_with fail
  have HBC := hid HBK.out
  refine (c1 HPK.out (HU0.out.under HBC.out)).mono ?_
  rintro e Y0 ⟨ax1, ay1, ax2, ay2, ax3, ay3, ax4, ay4, rfl, pp, bb⟩
  have HPP := hid pp
  have HBB := hid (HBC.out.trans (bb.mono HBC.out.size))
  clear pp bb
  go_wp2_with fail
  have HBN : Hid (Below Y0.heap.size Y0 (Y0.alloc (.cells #[.int .i64 1, .int .i64 2, .int .i64 4, .int .i64 6, .slice ax1 1 ay1, .slice ax2 3 ay2, .slice ax3 0 ay3, .slice ax4 0 ay4, .int .i64 2] 24))) := (Below.refl _ _).alloc (Nat.le_refl _) _
  have HBX := hid (HBB.out.trans (HBN.out.mono HBB.out.size))
  have HX : Hid ((Y0.alloc (.cells #[.int .i64 1, .int .i64 2, .int .i64 4, .int .i64 6, .slice ax1 1 ay1, .slice ax2 3 ay2, .slice ax3 0 ay3, .slice ax4 0 ay4, .int .i64 2] 24)).heap[Y0.heap.size]? = some (.cells #[.int .i64 1, .int .i64 2, .int .i64 4, .int .i64 6, .slice ax1 1 ay1, .slice ax2 3 ay2, .slice ax3 0 ay3, .slice ax4 0 ay4, .int .i64 2] 24)) := heap_alloc_new _ _
  have HPN := hid (HPP.out.under HBN.out)
  generalize Y0.alloc (.cells #[.int .i64 1, .int .i64 2, .int .i64 4, .int .i64 6, .slice ax1 1 ay1, .slice ax2 3 ay2, .slice ax3 0 ay3, .slice ax4 0 ay4, .int .i64 2] 24) = W1 at *
  generalize Y0.heap.size = qa at *
  have HB1 := hid (HB0.out.trans (HBX.out.mono HB0.out.size))
  have HU1 := hid (HU0.out.under HBX.out)
  have Hax1 := hid HX.out
  have Hap1 := hid HPN.out
  clear HBX HX HPN HBN HBB HPP HBC HPK HBK HB0 HU0
  refine (known_any _).mono ?_
  rintro e V1 ⟨v1, rfl, p1, b1⟩
  have HPK := hid p1
  have HBK := hid b1
  clear p1 b1
  go_wp2_with fail
  have HBL : Hid (Below V1.heap.size V1 (V1.alloc (.cells #[.int .i64 3, .int .i64 1, .int .i64 2] 3))) := (Below.refl _ _).alloc (Nat.le_refl _) _
  have HIL : Hid (IL (V1.alloc (.cells #[.int .i64 3, .int .i64 1, .int .i64 2] 3)) (.slice (some ⟨V1.heap.size, 0, none⟩) 3 3) [3, 1, 2]) := il_lit [3, 1, 2] (heap_alloc_new _ _) (lit64 _ rfl) (by decide)
  have HBC := hid (HBK.out.trans (HBL.out.mono HBK.out.size))
  refine (c2 (HPK.out.under HBL.out) (HU1.out.under HBC.out) HIL.out).mono ?_
  rintro e Y1 ⟨bx1, by1, bx2, by2, bx3, by3, bx4, by4, rfl, pp, bb⟩
  have HPP := hid pp
  have HBB := hid (HBC.out.trans (bb.mono HBC.out.size))
  clear pp bb
  go_wp2_with fail
  have HBN : Hid (Below Y1.heap.size Y1 (Y1.alloc (.cells #[.int .i64 1, .int .i64 1, .int .i64 3, .int .i64 6, .slice bx1 3 by1, .slice bx2 3 by2, .slice bx3 0 by3, .slice bx4 0 by4, .int .i64 2] 24))) := (Below.refl _ _).alloc (Nat.le_refl _) _
  have HBX := hid (HBB.out.trans (HBN.out.mono HBB.out.size))
  have HX : Hid ((Y1.alloc (.cells #[.int .i64 1, .int .i64 1, .int .i64 3, .int .i64 6, .slice bx1 3 by1, .slice bx2 3 by2, .slice bx3 0 by3, .slice bx4 0 by4, .int .i64 2] 24)).heap[Y1.heap.size]? = some (.cells #[.int .i64 1, .int .i64 1, .int .i64 3, .int .i64 6, .slice bx1 3 by1, .slice bx2 3 by2, .slice bx3 0 by3, .slice bx4 0 by4, .int .i64 2] 24)) := heap_alloc_new _ _
  have HPN := hid (HPP.out.under HBN.out)
  generalize Y1.alloc (.cells #[.int .i64 1, .int .i64 1, .int .i64 3, .int .i64 6, .slice bx1 3 by1, .slice bx2 3 by2, .slice bx3 0 by3, .slice bx4 0 by4, .int .i64 2] 24) = W2 at *
  generalize Y1.heap.size = qb at *
  have HB2 := hid (HB1.out.trans (HBX.out.mono HB1.out.size))
  have HU2 := hid (HU1.out.under HBX.out)
  have Hax2 := hid (blk_under Hax1.out HBX.out)
  have Hap2 := hid (Hap1.out.under HBX.out)
  have Hbx2 := hid HX.out
  have Hbp2 := hid HPN.out
  clear HBX HX HPN HBN HBB HPP HBC HBL HIL HPK HBK HB1 HU1 Hax1 Hap1
  refine (known_any _).mono ?_
  rintro e V2 ⟨v2, rfl, p2, b2⟩
  have HPK := hid p2
  have HBK := hid b2
  clear p2 b2
  go_wp2_with fail
  have HBL : Hid (Below V2.heap.size V2 (V2.alloc (.cells #[.int .i64 1] 3))) := (Below.refl _ _).alloc (Nat.le_refl _) _
  have HIL : Hid (IL (V2.alloc (.cells #[.int .i64 1] 3)) (.slice (some ⟨V2.heap.size, 0, none⟩) 1 1) [1]) := il_lit [1] (heap_alloc_new _ _) (lit64 _ rfl) (by decide)
  have HBC := hid (HBK.out.trans (HBL.out.mono HBK.out.size))
  refine (c3 (HPK.out.under HBL.out) (HU2.out.under HBC.out) HIL.out).mono ?_
  rintro e Y2 ⟨cx1, cy1, cx2, cy2, cx3, cy3, cx4, cy4, rfl, pp, bb⟩
  have HPP := hid pp
  have HBB := hid (HBC.out.trans (bb.mono HBC.out.size))
  clear pp bb
  go_wp2_with fail
  have HBN : Hid (Below Y2.heap.size Y2 (Y2.alloc (.cells #[.int .i64 0, .int .i64 0, .int .i64 0, .int .i64 0, .slice cx1 0 cy1, .slice cx2 0 cy2, .slice cx3 0 cy3, .slice cx4 0 cy4, .int .i64 0] 24))) := (Below.refl _ _).alloc (Nat.le_refl _) _
  have HBX := hid (HBB.out.trans (HBN.out.mono HBB.out.size))
  have HX : Hid ((Y2.alloc (.cells #[.int .i64 0, .int .i64 0, .int .i64 0, .int .i64 0, .slice cx1 0 cy1, .slice cx2 0 cy2, .slice cx3 0 cy3, .slice cx4 0 cy4, .int .i64 0] 24)).heap[Y2.heap.size]? = some (.cells #[.int .i64 0, .int .i64 0, .int .i64 0, .int .i64 0, .slice cx1 0 cy1, .slice cx2 0 cy2, .slice cx3 0 cy3, .slice cx4 0 cy4, .int .i64 0] 24)) := heap_alloc_new _ _
  have HPN := hid (HPP.out.under HBN.out)
  generalize Y2.alloc (.cells #[.int .i64 0, .int .i64 0, .int .i64 0, .int .i64 0, .slice cx1 0 cy1, .slice cx2 0 cy2, .slice cx3 0 cy3, .slice cx4 0 cy4, .int .i64 0] 24) = W3 at *
  generalize Y2.heap.size = qc at *
  have HB3 := hid (HB2.out.trans (HBX.out.mono HB2.out.size))
  have HU3 := hid (HU2.out.under HBX.out)
  have Hax3 := hid (blk_under Hax2.out HBX.out)
  have Hap3 := hid (Hap2.out.under HBX.out)
  have Hbx3 := hid (blk_under Hbx2.out HBX.out)
  have Hbp3 := hid (Hbp2.out.under HBX.out)
  have Hcx3 := hid HX.out
  have Hcp3 := hid HPN.out
  clear HBX HX HPN HBN HBB HPP HBC HBL HIL HPK HBK HB2 HU2 Hax2 Hap2 Hbx2 Hbp2
  refine (known_any _).mono ?_
  rintro e V3 ⟨v3, rfl, p3, b3⟩
  have HPK := hid p3
  have HBK := hid b3
  clear p3 b3
  go_wp2_with fail
  have HBL : Hid (Below V3.heap.size V3 (V3.alloc (.cells #[.int .i64 2, .int .i64 4] 3))) := (Below.refl _ _).alloc (Nat.le_refl _) _
  have HIL : Hid (IL (V3.alloc (.cells #[.int .i64 2, .int .i64 4] 3)) (.slice (some ⟨V3.heap.size, 0, none⟩) 2 2) [2, 4]) := il_lit [2, 4] (heap_alloc_new _ _) (lit64 _ rfl) (by decide)
  have HBC := hid (HBK.out.trans (HBL.out.mono HBK.out.size))
  refine (c4 (HPK.out.under HBL.out) (HU3.out.under HBC.out) HIL.out).mono ?_
  rintro e Y3 ⟨dx1, dy1, dx2, dy2, dx3, dy3, dx4, dy4, rfl, pp, bb⟩
  have HPP := hid pp
  have HBB := hid (HBC.out.trans (bb.mono HBC.out.size))
  clear pp bb
  go_upto_region 6 with fail
  have HBN : Hid (Below Y3.heap.size Y3 (Y3.alloc (.cells #[.int .i64 1, .int .i64 1, .int .i64 3, .int .i64 6, .slice dx1 2 dy1, .slice dx2 4 dy2, .slice dx3 1 dy3, .slice dx4 2 dy4, .int .i64 2] 24))) := (Below.refl _ _).alloc (Nat.le_refl _) _
  have HBX := hid (HBB.out.trans (HBN.out.mono HBB.out.size))
  have HX : Hid ((Y3.alloc (.cells #[.int .i64 1, .int .i64 1, .int .i64 3, .int .i64 6, .slice dx1 2 dy1, .slice dx2 4 dy2, .slice dx3 1 dy3, .slice dx4 2 dy4, .int .i64 2] 24)).heap[Y3.heap.size]? = some (.cells #[.int .i64 1, .int .i64 1, .int .i64 3, .int .i64 6, .slice dx1 2 dy1, .slice dx2 4 dy2, .slice dx3 1 dy3, .slice dx4 2 dy4, .int .i64 2] 24)) := heap_alloc_new _ _
  have HPN := hid (HPP.out.under HBN.out)
  generalize Y3.alloc (.cells #[.int .i64 1, .int .i64 1, .int .i64 3, .int .i64 6, .slice dx1 2 dy1, .slice dx2 4 dy2, .slice dx3 1 dy3, .slice dx4 2 dy4, .int .i64 2] 24) = W4 at *
  generalize Y3.heap.size = qd at *
  have HB4 := hid (HB3.out.trans (HBX.out.mono HB3.out.size))
  have HU4 := hid (HU3.out.under HBX.out)
  have Hax4 := hid (blk_under Hax3.out HBX.out)
  have Hap4 := hid (Hap3.out.under HBX.out)
  have Hbx4 := hid (blk_under Hbx3.out HBX.out)
  have Hbp4 := hid (Hbp3.out.under HBX.out)
  have Hcx4 := hid (blk_under Hcx3.out HBX.out)
  have Hcp4 := hid (Hcp3.out.under HBX.out)
  have Hdx4 := hid HX.out
  have Hdp4 := hid HPN.out
  clear HBX HX HPN HBN HBB HPP HBC HBL HIL HPK HBK HB3 HU3 Hax3 Hap3 Hbx3 Hbp3 Hcx3 Hcp3
  have kd0 := cell_blk Hdx4.out 0 _ rfl
  have kd1 := cell_blk Hdx4.out 1 _ rfl
  have kd2 := cell_blk Hdx4.out 2 _ rfl
  have kd3 := cell_blk Hdx4.out 3 _ rfl
  have kd4 := cell_blk Hdx4.out 4 _ rfl
  have kd5 := cell_blk Hdx4.out 5 _ rfl
  have kd6 := cell_blk Hdx4.out 6 _ rfl
  have kd7 := cell_blk Hdx4.out 7 _ rfl
  have kd8 := cell_blk Hdx4.out 8 _ rfl
  go_wp2_with fail
  have HBL : Hid (Below W4.heap.size W4 (W4.alloc (.cells #[.int .i64 1, .int .i64 2, .int .i64 4] 3))) := (Below.refl _ _).alloc (Nat.le_refl _) _
  have HIL : Hid (IL (W4.alloc (.cells #[.int .i64 1, .int .i64 2, .int .i64 4] 3)) (.slice (some ⟨W4.heap.size, 0, none⟩) 3 3) [1, 2, 4]) := il_lit [1, 2, 4] (heap_alloc_new _ _) (lit64 _ rfl) (by decide)
  have HBC := hid HBL.out
  refine (c5 (Hdp4.out.under HBC.out) (HU4.out.under HBC.out) HIL.out).mono ?_
  rintro e Y4 ⟨ex1, ey1, ex2, ey2, ex3, ey3, ex4, ey4, rfl, pp, bb⟩
  have HPP := hid pp
  have HBB := hid (HBC.out.trans (bb.mono HBC.out.size))
  clear pp bb
  go_wp2_with fail
  have HBN : Hid (Below Y4.heap.size Y4 (Y4.alloc (.cells #[.int .i64 1, .int .i64 1, .int .i64 3, .int .i64 7, .slice ex1 3 ey1, .slice ex2 4 ey2, .slice ex3 1 ey3, .slice ex4 2 ey4, .int .i64 2] 24))) := (Below.refl _ _).alloc (Nat.le_refl _) _
  have HBX := hid (HBB.out.trans (HBN.out.mono HBB.out.size))
  have HX : Hid ((Y4.alloc (.cells #[.int .i64 1, .int .i64 1, .int .i64 3, .int .i64 7, .slice ex1 3 ey1, .slice ex2 4 ey2, .slice ex3 1 ey3, .slice ex4 2 ey4, .int .i64 2] 24)).heap[Y4.heap.size]? = some (.cells #[.int .i64 1, .int .i64 1, .int .i64 3, .int .i64 7, .slice ex1 3 ey1, .slice ex2 4 ey2, .slice ex3 1 ey3, .slice ex4 2 ey4, .int .i64 2] 24)) := heap_alloc_new _ _
  have HPN := hid (HPP.out.under HBN.out)
  generalize Y4.alloc (.cells #[.int .i64 1, .int .i64 1, .int .i64 3, .int .i64 7, .slice ex1 3 ey1, .slice ex2 4 ey2, .slice ex3 1 ey3, .slice ex4 2 ey4, .int .i64 2] 24) = W5 at *
  generalize Y4.heap.size = qe at *
  have HB5 := hid (HB4.out.trans (HBX.out.mono HB4.out.size))
  have HU5 := hid (HU4.out.under HBX.out)
  have Hax5 := hid (blk_under Hax4.out HBX.out)
  have Hap5 := hid (Hap4.out.under HBX.out)
  have Hbx5 := hid (blk_under Hbx4.out HBX.out)
  have Hbp5 := hid (Hbp4.out.under HBX.out)
  have Hcx5 := hid (blk_under Hcx4.out HBX.out)
  have Hcp5 := hid (Hcp4.out.under HBX.out)
  have Hdx5 := hid (blk_under Hdx4.out HBX.out)
  have Hdp5 := hid (Hdp4.out.under HBX.out)
  have Hex5 := hid HX.out
  have Hep5 := hid HPN.out
  clear HBX HX HPN HBN HBB HPP HBC HBL HIL HB4 HU4 Hax4 Hap4 Hbx4 Hbp4 Hcx4 Hcp4 Hdx4 Hdp4
  have HBC := hid (Below.refl W5.heap.size W5)
  refine (c6 (Hep5.out.under HBC.out) (HU5.out.under HBC.out)).mono ?_
  rintro e Y5 ⟨fx1, fy1, fx2, fy2, fx3, fy3, fx4, fy4, rfl, pp, bb⟩
  have HPP := hid pp
  have HBB := hid (HBC.out.trans (bb.mono HBC.out.size))
  clear pp bb
  go_wp2_with fail
  have HBN : Hid (Below Y5.heap.size Y5 (Y5.alloc (.cells #[.int .i64 1, .int .i64 2, .int .i64 4, .int .i64 8, .slice fx1 2 fy1, .slice fx2 2 fy2, .slice fx3 0 fy3, .slice fx4 0 fy4, .int .i64 2] 24))) := (Below.refl _ _).alloc (Nat.le_refl _) _
  have HBX := hid (HBB.out.trans (HBN.out.mono HBB.out.size))
  have HX : Hid ((Y5.alloc (.cells #[.int .i64 1, .int .i64 2, .int .i64 4, .int .i64 8, .slice fx1 2 fy1, .slice fx2 2 fy2, .slice fx3 0 fy3, .slice fx4 0 fy4, .int .i64 2] 24)).heap[Y5.heap.size]? = some (.cells #[.int .i64 1, .int .i64 2, .int .i64 4, .int .i64 8, .slice fx1 2 fy1, .slice fx2 2 fy2, .slice fx3 0 fy3, .slice fx4 0 fy4, .int .i64 2] 24)) := heap_alloc_new _ _
  have HPN := hid (HPP.out.under HBN.out)
  generalize Y5.alloc (.cells #[.int .i64 1, .int .i64 2, .int .i64 4, .int .i64 8, .slice fx1 2 fy1, .slice fx2 2 fy2, .slice fx3 0 fy3, .slice fx4 0 fy4, .int .i64 2] 24) = W6 at *
  generalize Y5.heap.size = qf at *
  have HB6 := hid (HB5.out.trans (HBX.out.mono HB5.out.size))
  have HU6 := hid (HU5.out.under HBX.out)
  have Hax6 := hid (blk_under Hax5.out HBX.out)
  have Hap6 := hid (Hap5.out.under HBX.out)
  have Hbx6 := hid (blk_under Hbx5.out HBX.out)
  have Hbp6 := hid (Hbp5.out.under HBX.out)
  have Hcx6 := hid (blk_under Hcx5.out HBX.out)
  have Hcp6 := hid (Hcp5.out.under HBX.out)
  have Hdx6 := hid (blk_under Hdx5.out HBX.out)
  have Hdp6 := hid (Hdp5.out.under HBX.out)
  have Hex6 := hid (blk_under Hex5.out HBX.out)
  have Hep6 := hid (Hep5.out.under HBX.out)
  have Hfx6 := hid HX.out
  have Hfp6 := hid HPN.out
  clear HBX HX HPN HBN HBB HPP HBC HB5 HU5 Hax5 Hap5 Hbx5 Hbp5 Hcx5 Hcp5 Hdx5 Hdp5 Hex5 Hep5
  refine (known_any _).mono ?_
  rintro e V6 ⟨v6, rfl, p6, b6⟩
  have HPK := hid p6
  have HBK := hid b6
  clear p6 b6
  go_wp2_with fail
  have HBC := hid HBK.out
  refine (c7 HPK.out).mono ?_
  rintro e Y6 ⟨gx1, gy1, gx2, gy2, gx3, gy3, gx4, gy4, rfl, pp, bb⟩
  have HPP := hid pp
  have HBB := hid (HBC.out.trans (bb.mono HBC.out.size))
  clear pp bb
  go_upto_region 9 with fail
  have HBN : Hid (Below Y6.heap.size Y6 (Y6.alloc (.cells #[.int .i64 0, .int .i64 0, .int .i64 0, .int .i64 0, .slice gx1 0 gy1, .slice gx2 0 gy2, .slice gx3 0 gy3, .slice gx4 0 gy4, .int .i64 0] 24))) := (Below.refl _ _).alloc (Nat.le_refl _) _
  have HBX := hid (HBB.out.trans (HBN.out.mono HBB.out.size))
  have HX : Hid ((Y6.alloc (.cells #[.int .i64 0, .int .i64 0, .int .i64 0, .int .i64 0, .slice gx1 0 gy1, .slice gx2 0 gy2, .slice gx3 0 gy3, .slice gx4 0 gy4, .int .i64 0] 24)).heap[Y6.heap.size]? = some (.cells #[.int .i64 0, .int .i64 0, .int .i64 0, .int .i64 0, .slice gx1 0 gy1, .slice gx2 0 gy2, .slice gx3 0 gy3, .slice gx4 0 gy4, .int .i64 0] 24)) := heap_alloc_new _ _
  have HPN := hid (HPP.out.under HBN.out)
  generalize Y6.alloc (.cells #[.int .i64 0, .int .i64 0, .int .i64 0, .int .i64 0, .slice gx1 0 gy1, .slice gx2 0 gy2, .slice gx3 0 gy3, .slice gx4 0 gy4, .int .i64 0] 24) = W7 at *
  generalize Y6.heap.size = qg at *
  have HB7 := hid (HB6.out.trans (HBX.out.mono HB6.out.size))
  have HU7 := hid (HU6.out.under HBX.out)
  have Hax7 := hid (blk_under Hax6.out HBX.out)
  have Hap7 := hid (Hap6.out.under HBX.out)
  have Hbx7 := hid (blk_under Hbx6.out HBX.out)
  have Hbp7 := hid (Hbp6.out.under HBX.out)
  have Hcx7 := hid (blk_under Hcx6.out HBX.out)
  have Hcp7 := hid (Hcp6.out.under HBX.out)
  have Hdx7 := hid (blk_under Hdx6.out HBX.out)
  have Hdp7 := hid (Hdp6.out.under HBX.out)
  have Hex7 := hid (blk_under Hex6.out HBX.out)
  have Hep7 := hid (Hep6.out.under HBX.out)
  have Hfx7 := hid (blk_under Hfx6.out HBX.out)
  have Hfp7 := hid (Hfp6.out.under HBX.out)
  have Hgx7 := hid HX.out
  have Hgp7 := hid HPN.out
  clear HBX HX HPN HBN HBB HPP HBC HPK HBK HB6 HU6 Hax6 Hap6 Hbx6 Hbp6 Hcx6 Hcp6 Hdx6 Hdp6 Hex6 Hep6 Hfx6 Hfp6
  have ka4 := cell_blk Hax7.out 4 _ rfl
  go_wp2_with fail
  have HIS : Hid (IL W7 (.slice ax1 1 ay1) [2]) := by
    obtain ⟨_, _, _, _, e9, g1, g2, _⟩ := Hap7.out
    cases e9
    exact g1
  have HBL : Hid (Below W7.heap.size W7 (W7.alloc (.cells #[.int .i64 2] 3))) := (Below.refl _ _).alloc (Nat.le_refl _) _
  have HIL : Hid (IL (W7.alloc (.cells #[.int .i64 2] 3)) (.slice (some ⟨W7.heap.size, 0, none⟩) 1 1) [2]) := il_lit [2] (heap_alloc_new _ _) (lit64 _ rfl) (by decide)
  refine (sameList_any (HIS.out.under HBL.out) HIL.out).mono ?_
  rintro e W8 ⟨rfl, bb⟩
  rw [decide_eq_true rfl]
  have HBX := hid (HBL.out.trans (bb.mono HBL.out.size))
  clear bb ka4
  have HB8 := hid (HB7.out.trans (HBX.out.mono HB7.out.size))
  have Hax8 := hid (blk_under Hax7.out HBX.out)
  have Hap8 := hid (Hap7.out.under HBX.out)
  have Hbx8 := hid (blk_under Hbx7.out HBX.out)
  have Hbp8 := hid (Hbp7.out.under HBX.out)
  have Hcx8 := hid (blk_under Hcx7.out HBX.out)
  have Hcp8 := hid (Hcp7.out.under HBX.out)
  have Hdx8 := hid (blk_under Hdx7.out HBX.out)
  have Hdp8 := hid (Hdp7.out.under HBX.out)
  have Hex8 := hid (blk_under Hex7.out HBX.out)
  have Hep8 := hid (Hep7.out.under HBX.out)
  have Hfx8 := hid (blk_under Hfx7.out HBX.out)
  have Hfp8 := hid (Hfp7.out.under HBX.out)
  have Hgx8 := hid (blk_under Hgx7.out HBX.out)
  have Hgp8 := hid (Hgp7.out.under HBX.out)
  clear HBX HBL HIL HIS HB7 Hax7 Hap7 Hbx7 Hbp7 Hcx7 Hcp7 Hdx7 Hdp7 Hex7 Hep7 Hfx7 Hfp7 Hgx7 Hgp7
  have kb4 := cell_blk Hbx8.out 4 _ rfl
  go_wp2_with fail
  have HIS : Hid (IL W8 (.slice bx1 3 by1) [1, 2, 3]) := by
    obtain ⟨_, _, _, _, e9, g1, g2, _⟩ := Hbp8.out
    cases e9
    exact g1
  have HBL : Hid (Below W8.heap.size W8 (W8.alloc (.cells #[.int .i64 1, .int .i64 2, .int .i64 3] 3))) := (Below.refl _ _).alloc (Nat.le_refl _) _
  have HIL : Hid (IL (W8.alloc (.cells #[.int .i64 1, .int .i64 2, .int .i64 3] 3)) (.slice (some ⟨W8.heap.size, 0, none⟩) 3 3) [1, 2, 3]) := il_lit [1, 2, 3] (heap_alloc_new _ _) (lit64 _ rfl) (by decide)
  refine (sameList_any (HIS.out.under HBL.out) HIL.out).mono ?_
  rintro e W9 ⟨rfl, bb⟩
  rw [decide_eq_true rfl]
  have HBX := hid (HBL.out.trans (bb.mono HBL.out.size))
  clear bb kb4
  have HB9 := hid (HB8.out.trans (HBX.out.mono HB8.out.size))
  have Hax9 := hid (blk_under Hax8.out HBX.out)
  have Hap9 := hid (Hap8.out.under HBX.out)
  have Hbx9 := hid (blk_under Hbx8.out HBX.out)
  have Hbp9 := hid (Hbp8.out.under HBX.out)
  have Hcx9 := hid (blk_under Hcx8.out HBX.out)
  have Hcp9 := hid (Hcp8.out.under HBX.out)
  have Hdx9 := hid (blk_under Hdx8.out HBX.out)
  have Hdp9 := hid (Hdp8.out.under HBX.out)
  have Hex9 := hid (blk_under Hex8.out HBX.out)
  have Hep9 := hid (Hep8.out.under HBX.out)
  have Hfx9 := hid (blk_under Hfx8.out HBX.out)
  have Hfp9 := hid (Hfp8.out.under HBX.out)
  have Hgx9 := hid (blk_under Hgx8.out HBX.out)
  have Hgp9 := hid (Hgp8.out.under HBX.out)
  clear HBX HBL HIL HIS HB8 Hax8 Hap8 Hbx8 Hbp8 Hcx8 Hcp8 Hdx8 Hdp8 Hex8 Hep8 Hfx8 Hfp8 Hgx8 Hgp8
  have kd5 := cell_blk Hdx9.out 5 _ rfl
  go_wp2_with fail
  have HIS : Hid (IL W9 (.slice dx2 4 dy2) [2, 4, 1, 3]) := by
    obtain ⟨_, _, _, _, e9, g1, g2, _⟩ := Hdp9.out
    cases e9
    exact g2
  have HBL : Hid (Below W9.heap.size W9 (W9.alloc (.cells #[.int .i64 2, .int .i64 4, .int .i64 1, .int .i64 3] 3))) := (Below.refl _ _).alloc (Nat.le_refl _) _
  have HIL : Hid (IL (W9.alloc (.cells #[.int .i64 2, .int .i64 4, .int .i64 1, .int .i64 3] 3)) (.slice (some ⟨W9.heap.size, 0, none⟩) 4 4) [2, 4, 1, 3]) := il_lit [2, 4, 1, 3] (heap_alloc_new _ _) (lit64 _ rfl) (by decide)
  refine (sameList_any (HIS.out.under HBL.out) HIL.out).mono ?_
  rintro e W10 ⟨rfl, bb⟩
  rw [decide_eq_true rfl]
  have HBX := hid (HBL.out.trans (bb.mono HBL.out.size))
  clear bb kd5
  have HB10 := hid (HB9.out.trans (HBX.out.mono HB9.out.size))
  have Hax10 := hid (blk_under Hax9.out HBX.out)
  have Hap10 := hid (Hap9.out.under HBX.out)
  have Hbx10 := hid (blk_under Hbx9.out HBX.out)
  have Hbp10 := hid (Hbp9.out.under HBX.out)
  have Hcx10 := hid (blk_under Hcx9.out HBX.out)
  have Hcp10 := hid (Hcp9.out.under HBX.out)
  have Hdx10 := hid (blk_under Hdx9.out HBX.out)
  have Hdp10 := hid (Hdp9.out.under HBX.out)
  have Hex10 := hid (blk_under Hex9.out HBX.out)
  have Hep10 := hid (Hep9.out.under HBX.out)
  have Hfx10 := hid (blk_under Hfx9.out HBX.out)
  have Hfp10 := hid (Hfp9.out.under HBX.out)
  have Hgx10 := hid (blk_under Hgx9.out HBX.out)
  have Hgp10 := hid (Hgp9.out.under HBX.out)
  clear HBX HBL HIL HIS HB9 Hax9 Hap9 Hbx9 Hbp9 Hcx9 Hcp9 Hdx9 Hdp9 Hex9 Hep9 Hfx9 Hfp9 Hgx9 Hgp9
  have kf5 := cell_blk Hfx10.out 5 _ rfl
  go_wp2_with fail
  have HIS : Hid (IL W10 (.slice fx2 2 fy2) [2, 4]) := by
    obtain ⟨_, _, _, _, e9, g1, g2, _⟩ := Hfp10.out
    cases e9
    exact g2
  have HBL : Hid (Below W10.heap.size W10 (W10.alloc (.cells #[.int .i64 2, .int .i64 4] 3))) := (Below.refl _ _).alloc (Nat.le_refl _) _
  have HIL : Hid (IL (W10.alloc (.cells #[.int .i64 2, .int .i64 4] 3)) (.slice (some ⟨W10.heap.size, 0, none⟩) 2 2) [2, 4]) := il_lit [2, 4] (heap_alloc_new _ _) (lit64 _ rfl) (by decide)
  refine (sameList_any (HIS.out.under HBL.out) HIL.out).mono ?_
  rintro e W11 ⟨rfl, bb⟩
  rw [decide_eq_true rfl]
  have HBX := hid (HBL.out.trans (bb.mono HBL.out.size))
  clear bb kf5
  have HB11 := hid (HB10.out.trans (HBX.out.mono HB10.out.size))
  have Hax11 := hid (blk_under Hax10.out HBX.out)
  have Hap11 := hid (Hap10.out.under HBX.out)
  have Hbx11 := hid (blk_under Hbx10.out HBX.out)
  have Hbp11 := hid (Hbp10.out.under HBX.out)
  have Hcx11 := hid (blk_under Hcx10.out HBX.out)
  have Hcp11 := hid (Hcp10.out.under HBX.out)
  have Hdx11 := hid (blk_under Hdx10.out HBX.out)
  have Hdp11 := hid (Hdp10.out.under HBX.out)
  have Hex11 := hid (blk_under Hex10.out HBX.out)
  have Hep11 := hid (Hep10.out.under HBX.out)
  have Hfx11 := hid (blk_under Hfx10.out HBX.out)
  have Hfp11 := hid (Hfp10.out.under HBX.out)
  have Hgx11 := hid (blk_under Hgx10.out HBX.out)
  have Hgp11 := hid (Hgp10.out.under HBX.out)
  clear HBX HBL HIL HIS HB10 Hax10 Hap10 Hbx10 Hbp10 Hcx10 Hcp10 Hdx10 Hdp10 Hex10 Hep10 Hfx10 Hfp10 Hgx10 Hgp10
  have ka1 := cell_blk Hax11.out 1 _ rfl
  have ka2 := cell_blk Hax11.out 2 _ rfl
  have ka3 := cell_blk Hax11.out 3 _ rfl
  have ke1 := cell_blk Hex11.out 1 _ rfl
  have kf1 := cell_blk Hfx11.out 1 _ rfl
  have kf2 := cell_blk Hfx11.out 2 _ rfl
  have kf3 := cell_blk Hfx11.out 3 _ rfl
  have kf6 := cell_blk Hfx11.out 6 _ rfl
  have kf7 := cell_blk Hfx11.out 7 _ rfl
  go_wp2_with fail
  try simp only [List.append_eq, List.cons_append, List.nil_append]
  go_wp2_with fail
  go_ret
  exact ⟨rfl, HB11.out⟩
end Go.Proofs.Ytfahepeemodcbaa
