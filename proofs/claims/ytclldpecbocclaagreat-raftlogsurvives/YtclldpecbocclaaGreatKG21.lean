/- What is read back: a body. -/
import Derived.Test.YtclldpecbocclaaGreatK11
import Derived.Test.YtclldpecbocclaaGreatK12
import Derived.Test.YtclldpecbocclaaGreatKG20
namespace Go.Proofs.YtclldpecbocclaaGreat
open Go.RowKit Go.Maps
set_option maxRecDepth 100000
set_option linter.unusedSimpArgs false
set_option linter.unusedVariables false

set_option maxHeartbeats 1600000 in
theorem readBody_yes (x : Et) (w : World) (ht : 1 ≤ x.t ∧ x.t ≤ 1000000000) (hi : 1 ≤ x.i ∧ x.i ≤ 1000000000) (hd : x.d.length ≤ 2048) :
    Calls Tryz.prog 93 #[.string (strOf (bodyE x))] w fun e w' => e = .returned (.tuple #[.agg #[.int .i64 x.t, .int .i64 x.i, .string (strOf x.d)], .int .i64 0]) ∧ Below w.heap.size w w' := by
  obtain ⟨s1, s2, s3⟩ := body_states x ⟨by omega, by omega⟩ ⟨by omega, by omega⟩ hd
  have hbl := bodyE_length x
  have t1 : idB x.t = true := (idB_iff _).2 ht
  have t2 : idB x.i = true := (idB_iff _).2 hi
  have HR := hid (pread_any (bodyE x) (w.alloc (.cells #[.int .i64 0, .int .i64 0, .string ⟨#[]⟩] 37)))
  have hP : Pd ((w.alloc (.cells #[.int .i64 0, .int .i64 0, .string ⟨#[]⟩] 37)).alloc (.cells #[.string (strOf (bodyE x)), .bool false] 132)) (w.heap.size + 1) ⟨bodyE x, false⟩ := ⟨by
    have := heap_alloc_new (w.alloc (.cells #[.int .i64 0, .int .i64 0, .string ⟨#[]⟩] 37)) (.cells #[.string (strOf (bodyE x)), .bool false] 132)
    simpa using this, by unfold maxLen; simp only; omega⟩
  have hB0 : Below w.heap.size w ((w.alloc (.cells #[.int .i64 0, .int .i64 0, .string ⟨#[]⟩] 37)).alloc (.cells #[.string (strOf (bodyE x)), .bool false] 132)) := ((Below.refl _ _).alloc (Nat.le_refl _) _).alloc (by simp) _
  have hb0 : ((w.alloc (.cells #[.int .i64 0, .int .i64 0, .string ⟨#[]⟩] 37)).alloc (.cells #[.string (strOf (bodyE x)), .bool false] 132)).heap[w.heap.size]? = some (.cells #[.int .i64 0, .int .i64 0, .string ⟨#[]⟩] 37) := blk_alloc (heap_alloc_new w _) _
  have HP := hid hP
  have HB0 := hid hB0
  have Hb0 := hid hb0
  have S1 := hid s1
  have S2 := hid s2
  have S3 := hid s3
  clear hP hB0 hb0 s1 s2 s3
  obtain ⟨xt, xi, xd⟩ := x
  simp only at *
  generalize bodyE ⟨xt, xi, xd⟩ = BD at *
  go_enter Tryz.func93, Tryz.ntmps93
  go_wp2_with fail
  refine HR.out.mono ?_
  rintro e w1 ⟨rfl, rfl⟩
  have hz : (w.alloc (.cells #[.int .i64 0, .int .i64 0, .string ⟨#[]⟩] 37)).heap.size = w.heap.size + 1 := by simp
  rw [hz]
  generalize (w.alloc (.cells #[.int .i64 0, .int .i64 0, .string ⟨#[]⟩] 37)).alloc (.cells #[.string (strOf BD), .bool false] 132) = W1 at *
  have C1 := hid (pnum_any HP.out)
  rw [S1.out] at C1
  go_wp2_with fail
  refine C1.out.mono ?_
  rintro e w2 ⟨rfl, hp2, hg2⟩
  have C2 := hid (pnum_any hp2)
  rw [S2.out] at C2
  have HB2 := hid (grown_below2 HB0.out hg2 (by omega))
  have Hb2 := hid (grown_blk hg2 Hb0.out (by omega))
  clear hp2 hg2 C1
  go_wp2_with fail
  refine C2.out.mono ?_
  rintro e w3 ⟨rfl, hp3, hg3⟩
  have C3 := hid (ptext_any hp3 2048 (by omega) (by omega))
  rw [S3.out] at C3
  have HB3 := hid (grown_below2 HB2.out hg3 (by omega))
  have Hb3 := hid (grown_blk hg3 Hb2.out (by omega))
  clear hp3 hg3 C2
  go_wp2_with fail
  refine C3.out.mono ?_
  rintro e w4 ⟨rfl, hp4, hg4⟩
  have HB4 := hid (grown_below2 HB3.out hg4 (by omega))
  have Hb4 := hid (grown_blk hg4 Hb3.out (by omega))
  have HP4 := hid hp4
  clear hp4 hg4 C3
  go_wp2_with fail
  have hlt4 := lt_blk Hb4.out
  have hq4 := HP4.out.lt
  have HP5 : Hid (Pd (w4.alloc (.cells #[.int .i64 xt, .int .i64 xi, .string (strOf xd)] 37)) (w.heap.size + 1) ⟨[], false⟩) := hid (HP4.out.kept (by rw [blk_alloc HP4.out.box, HP4.out.box]))
  have C4 := hid (pdone_any HP5.out)
  have HB5 := hid (HB4.out.alloc HB4.out.size (.cells #[.int .i64 xt, .int .i64 xi, .string (strOf xd)] 37))
  have Hb5 := hid (blk_alloc Hb4.out (.cells #[.int .i64 xt, .int .i64 xi, .string (strOf xd)] 37))
  have Hx5 := hid (heap_alloc_new w4 (.cells #[.int .i64 xt, .int .i64 xi, .string (strOf xd)] 37))
  have hd1 : doneS ⟨[], false⟩ = true := rfl
  rw [hd1] at C4
  refine C4.out.mono ?_
  rintro e w5 ⟨rfl, rfl⟩
  generalize hX : w4.heap.size = X at *
  generalize w4.alloc (.cells #[.int .i64 xt, .int .i64 xi, .string (strOf xd)] 37) = W5 at *
  have cx0 : W5.cell? ⟨X, 0, none⟩ = some (.int .i64 xt) := cell_blk Hx5.out 0 _ rfl
  have cx1 : W5.cell? ⟨X, 1, none⟩ = some (.int .i64 xi) := cell_blk Hx5.out 1 _ rfl
  have cx2 : W5.cell? ⟨X, 2, none⟩ = some (.string (strOf xd)) := cell_blk Hx5.out 2 _ rfl
  have I1 := hid (isId_any xt W5)
  have I2 := hid (isId_any xi W5)
  rw [t1] at I1
  rw [t2] at I2
  go_wp2_with fail
  refine I1.out.mono ?_
  rintro e w6 ⟨rfl, rfl⟩
  go_wp2_with fail
  refine I2.out.mono ?_
  rintro e w6 ⟨rfl, rfl⟩
  have cr0 := cell_blk Hb5.out 0 _ rfl
  have cr1 := cell_blk Hb5.out 1 _ rfl
  have cr2 := cell_blk Hb5.out 2 _ rfl
  have fr0 := frozen_blk Hb5.out 0
  have fr1 := frozen_blk Hb5.out 1
  have fr2 := frozen_blk Hb5.out 2
  go_wp2_with fail
  refine bodyPost_ret (v := .tuple #[.agg #[.int .i64 xt, .int .i64 xi, .string (strOf xd)], .int .i64 0]) (by simp [results, Tryz.results93, go_sem, cr0, cr1, cr2]) rfl ⟨rfl, ?_⟩
  exact set3_below HB5.out (Nat.le_refl _) _ _ _
end Go.Proofs.YtclldpecbocclaaGreat

