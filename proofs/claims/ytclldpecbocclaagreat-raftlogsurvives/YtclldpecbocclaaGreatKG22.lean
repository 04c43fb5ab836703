/- What is read back: an entry. -/
import Derived.Test.YtclldpecbocclaaGreatKG21
import Derived.Test.YtclldpecbocclaaGreatK7
namespace Go.Proofs.YtclldpecbocclaaGreat
open Go.RowKit Go.Maps
set_option maxRecDepth 100000
set_option linter.unusedSimpArgs false
set_option linter.unusedVariables false

set_option maxHeartbeats 800000 in
theorem readEntry_short (b : List UInt8) (w : World) (h : b.length < 8) :
    Calls Tryz.prog 79 #[.string (strOf b)] w fun e w' => e = .returned (.tuple #[.agg #[.int .i64 0, .int .i64 0, .string ⟨#[]⟩], .int .i64 0, .int .i64 5]) ∧ Below w.heap.size w w' := by
  have hsz := strOf_size b
  have h8 : ((strOf b).size : Int) < 8 := by omega
  have h8' : (b.length : Int) < 8 := by omega
  have Hb := hid (heap_alloc_new w (.cells #[.int .i64 0, .int .i64 0, .string ⟨#[]⟩] 37))
  have HB : Hid (Below w.heap.size w (w.alloc (.cells #[.int .i64 0, .int .i64 0, .string ⟨#[]⟩] 37))) := hid ((Below.refl _ _).alloc (Nat.le_refl _) _)
  have cr0 := cell_blk Hb.out 0 _ rfl
  have cr1 := cell_blk Hb.out 1 _ rfl
  have cr2 := cell_blk Hb.out 2 _ rfl
  have fr0 := frozen_blk Hb.out 0
  have fr1 := frozen_blk Hb.out 1
  have fr2 := frozen_blk Hb.out 2
  go_enter Tryz.func79, Tryz.ntmps79
  go_wp2_with fail
  refine bodyPost_ret (v := .tuple #[.agg #[.int .i64 0, .int .i64 0, .string ⟨#[]⟩], .int .i64 0, .int .i64 5]) (by simp [results, Tryz.results79, go_sem, cr0, cr1, cr2]) rfl ⟨rfl, ?_⟩
  exact HB.out
theorem ent_four (x : Et) (more : List UInt8) (h : x.d.length ≤ 2048) : fourN (entB x ++ more) = (bodyE x).length := by
  have := bodyE_length x
  unfold entB
  rw [List.append_assoc, fourN_fourL _ _ (by omega)]
theorem ent_drop (x : Et) (more : List UInt8) : (entB x ++ more).drop 4 = sealL (bodyE x) ++ more := by
  unfold entB
  rw [List.append_assoc, List.drop_left' (by rfl)]
theorem ent_take (x : Et) (more : List UInt8) : (sealL (bodyE x) ++ more).take (4 + (bodyE x).length) = sealL (bodyE x) := by
  have := sealL_length (bodyE x)
  exact List.take_left' (by omega)
theorem seal_drop4 (t : List UInt8) : (sealL t).drop 4 = t := by
  unfold sealL
  exact List.drop_left' (by rfl)
theorem unseal_seal (t : List UInt8) (w : World) (h : t.length ≤ 1000000) : Calls Tryz.prog 74 #[.string (strOf (sealL t))] w fun e w' => e = .returned (.tuple #[.string (strOf t), .int .i64 0]) ∧ w' = w := by
  have hl := sealL_length t
  refine (punseal_any (sealL t) w (by omega)).mono ?_
  rintro e w' ⟨rfl, rfl⟩
  rw [if_neg (by omega), if_neg (by rw [seal_drop4, seal_four]; simp), seal_drop4]
  exact ⟨rfl, rfl⟩
set_option maxHeartbeats 1600000 in
theorem readEntry_yes (x : Et) (more : List UInt8) (w : World) (ht : 1 ≤ x.t ∧ x.t ≤ 1000000000) (hi : 1 ≤ x.i ∧ x.i ≤ 1000000000) (hd : x.d.length ≤ 2048) (hm : more.length ≤ 90000000) :
    Calls Tryz.prog 79 #[.string (strOf (entB x ++ more))] w fun e w' => e = .returned (.tuple #[.agg #[.int .i64 x.t, .int .i64 x.i, .string (strOf x.d)], .int .i64 (entB x).length, .int .i64 0]) ∧ Below w.heap.size w w' := by
  have hbl := bodyE_length x
  have hel := entB_length x
  have hsl := sealL_length (bodyE x)
  have hsz := strOf_size (entB x ++ more)
  have hall : (entB x ++ more).length = 8 + (bodyE x).length + more.length := by rw [List.length_append]; omega
  have hsz2 := strOf_size (sealL (bodyE x) ++ more)
  have hall2 : (sealL (bodyE x) ++ more).length = 4 + (bodyE x).length + more.length := by rw [List.length_append]; omega
  have HD : Hid ((strOf (entB x ++ more)).extract 4 (entB x ++ more).length = strOf (sealL (bodyE x) ++ more)) := hid (by rw [extract_drop, ent_drop])
  have HT : Hid ((strOf (sealL (bodyE x) ++ more)).extract 0 (4 + (bodyE x).length) = strOf (sealL (bodyE x))) := hid (by rw [extract_take, ent_take])
  have Hb := hid (heap_alloc_new w (.cells #[.int .i64 0, .int .i64 0, .string ⟨#[]⟩] 37))
  have HB : Hid (Below w.heap.size w (w.alloc (.cells #[.int .i64 0, .int .i64 0, .string ⟨#[]⟩] 37))) := hid ((Below.refl _ _).alloc (Nat.le_refl _) _)
  have hz : (w.alloc (.cells #[.int .i64 0, .int .i64 0, .string ⟨#[]⟩] 37)).heap.size = w.heap.size + 1 := by simp
  have HR := hid (preadFour_any (strOf (entB x ++ more)) (w.alloc (.cells #[.int .i64 0, .int .i64 0, .string ⟨#[]⟩] 37)) (by omega) (by unfold maxLen; omega))
  rw [strOf_data, ent_four x more hd] at HR
  have HU := hid (unseal_seal (bodyE x) (w.alloc (.cells #[.int .i64 0, .int .i64 0, .string ⟨#[]⟩] 37)) (by omega))
  have HY := hid (readBody_yes x (w.alloc (.cells #[.int .i64 0, .int .i64 0, .string ⟨#[]⟩] 37)) ht hi hd)
  have hel2 : ((entB x).length : Int) = 8 + ((bodyE x).length : Int) := by omega
  rw [hel2]
  obtain ⟨xt, xi, xd⟩ := x
  simp only at *
  generalize hSM : sealL (bodyE ⟨xt, xi, xd⟩) ++ more = SM at *
  generalize hS : sealL (bodyE ⟨xt, xi, xd⟩) = SS at *
  generalize hEM : entB ⟨xt, xi, xd⟩ ++ more = EM at *
  generalize hBD : bodyE ⟨xt, xi, xd⟩ = BD at *
  clear hSM hS hEM hBD hel hel2
  generalize hN : BD.length = N at *
  have d1 : ¬ ((strOf EM).size : Int) < 8 := by omega
  have d1' : ¬ (EM.length : Int) < 8 := by omega
  have d2 : ¬ (2100 : Int) < (N : Int) := by omega
  have d3 : (4 : Int) ≤ ((strOf EM).size : Int) := by omega
  have d3' : (4 : Int) ≤ (EM.length : Int) := by omega
  have d4 : ¬ ((strOf SM).size : Int) < 4 + (N : Int) := by omega
  have d4' : ¬ (SM.length : Int) < 4 + (N : Int) := by omega
  have d5 : 4 + (N : Int) ≤ ((strOf SM).size : Int) := by omega
  have d5' : 4 + (N : Int) ≤ (SM.length : Int) := by omega
  have d6 : IntKind.i64.wrap (4 + (N : Int)) = 4 + (N : Int) := IntWalk.i64_in _ ⟨by omega, by omega⟩
  have d7 : IntKind.i64.wrap (8 + (N : Int)) = 8 + (N : Int) := IntWalk.i64_in _ ⟨by omega, by omega⟩
  have d8 : (4 + (N : Int)).toNat = 4 + N := by omega
  have d9 : (0 : Int) ≤ 4 + (N : Int) := by omega
  go_enter Tryz.func79, Tryz.ntmps79
  go_wp2_with fail
  generalize w.alloc (.cells #[.int .i64 0, .int .i64 0, .string ⟨#[]⟩] 37) = W1 at *
  refine HR.out.mono ?_
  rintro e w1 ⟨rfl, rfl⟩
  go_wp2_with fail
  have hD := HD.out
  rw [hall] at hD
  rw [hD, HT.out]
  refine HU.out.mono ?_
  rintro e w1 ⟨rfl, rfl⟩
  go_wp2_with fail
  refine HY.out.mono ?_
  rintro e w2 ⟨rfl, hb2⟩
  have Hb2 := hid (blk_alloc ((hb2.block _ (lt_blk Hb.out)).trans Hb.out) (.cells #[.int .i64 xt, .int .i64 xi, .string (strOf xd)] 37))
  have HB1 := hid (HB.out.trans (hb2.mono (by omega)))
  have HB2 := hid (HB1.out.alloc HB1.out.size (.cells #[.int .i64 xt, .int .i64 xi, .string (strOf xd)] 37))
  obtain ⟨cx0, cx1, cx2⟩ := new3 w2 (.int .i64 xt) (.int .i64 xi) (.string (strOf xd)) 37
  have cr0 := cell_blk Hb2.out 0 _ rfl
  have cr1 := cell_blk Hb2.out 1 _ rfl
  have cr2 := cell_blk Hb2.out 2 _ rfl
  have fr0 := frozen_blk Hb2.out 0
  have fr1 := frozen_blk Hb2.out 1
  have fr2 := frozen_blk Hb2.out 2
  go_wp2_with fail
  refine bodyPost_ret (v := .tuple #[.agg #[.int .i64 xt, .int .i64 xi, .string (strOf xd)], .int .i64 (8 + (N : Int)), .int .i64 0]) (by simp [results, Tryz.results79, go_sem, cr0, cr1, cr2]) rfl ⟨rfl, ?_⟩
  exact set3_below HB2.out (Nat.le_refl _) _ _ _
end Go.Proofs.YtclldpecbocclaaGreat

