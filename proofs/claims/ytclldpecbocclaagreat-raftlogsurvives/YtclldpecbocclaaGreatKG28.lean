/- What is read back: the snapshot. -/
import Derived.Test.YtclldpecbocclaaGreatKG27
namespace Go.Proofs.YtclldpecbocclaaGreat
open Go.RowKit Go.Maps
set_option maxRecDepth 100000
set_option linter.unusedSimpArgs false
set_option linter.unusedVariables false

/-- A snapshot's body. -/
def bodyS2 (x : Et) : List UInt8 := intsL [x.i, x.t] ++ textL x.d
theorem bodyS2_length (x : Et) : (bodyS2 x).length ≤ 30 + x.d.length := by
  unfold bodyS2
  have h1 := intsL_length [x.i, x.t]
  have h2 := textL_len2 x.d
  simp only [List.length_append, List.length_cons, List.length_nil] at *
  omega
theorem snap_states (x : Et) (ht : I64 x.t) (hi : I64 x.i) (hd : x.d.length ≤ 60000) : numS ⟨bodyS2 x, false⟩ = (x.i, ⟨intL x.t ++ textL x.d, false⟩) ∧ numS ⟨intL x.t ++ textL x.d, false⟩ = (x.t, ⟨textL x.d, false⟩) ∧ textS 60000 ⟨textL x.d, false⟩ = (x.d, ⟨[], false⟩) := by
  have e : bodyS2 x = intL x.i ++ (intL x.t ++ textL x.d) := by unfold bodyS2; simp [intsL]
  refine ⟨by rw [e]; exact numS_intL _ _ hi, numS_intL _ _ ht, ?_⟩
  have := textS_big 60000 x.d [] (by omega) (by omega)
  rw [List.append_nil] at this
  exact this
set_option maxHeartbeats 1600000 in
theorem readSnap_yes (x : Et) (w : World) (ht : 1 ≤ x.t ∧ x.t ≤ 1000000000) (hi : 1 ≤ x.i ∧ x.i ≤ 1000000000) (hd : x.d.length ≤ 60000) :
    Calls Tryz.prog 59 #[.string (strOf (snapB x))] w fun e w' => e = .returned (.tuple #[.agg #[.int .i64 x.t, .int .i64 x.i, .string (strOf x.d)], .int .i64 0]) ∧ Below w.heap.size w w' := by
  obtain ⟨s1, s2, s3⟩ := snap_states x ⟨by omega, by omega⟩ ⟨by omega, by omega⟩ hd
  have hbl := bodyS2_length x
  have t1 : idB x.t = true := (idB_iff _).2 ht
  have t2 : idB x.i = true := (idB_iff _).2 hi
  have HU := hid (unseal_seal (bodyS2 x) (w.alloc (.cells #[.int .i64 0, .int .i64 0, .string ⟨#[]⟩] 37)) (by omega))
  have HR := hid (pread_any (bodyS2 x) (w.alloc (.cells #[.int .i64 0, .int .i64 0, .string ⟨#[]⟩] 37)))
  have hP : Pd ((w.alloc (.cells #[.int .i64 0, .int .i64 0, .string ⟨#[]⟩] 37)).alloc (.cells #[.string (strOf (bodyS2 x)), .bool false] 132)) (w.heap.size + 1) ⟨bodyS2 x, false⟩ := ⟨by
    have := heap_alloc_new (w.alloc (.cells #[.int .i64 0, .int .i64 0, .string ⟨#[]⟩] 37)) (.cells #[.string (strOf (bodyS2 x)), .bool false] 132)
    simpa using this, by unfold maxLen; simp only; omega⟩
  have hB0 : Below w.heap.size w ((w.alloc (.cells #[.int .i64 0, .int .i64 0, .string ⟨#[]⟩] 37)).alloc (.cells #[.string (strOf (bodyS2 x)), .bool false] 132)) := ((Below.refl _ _).alloc (Nat.le_refl _) _).alloc (by simp) _
  have hb0 : ((w.alloc (.cells #[.int .i64 0, .int .i64 0, .string ⟨#[]⟩] 37)).alloc (.cells #[.string (strOf (bodyS2 x)), .bool false] 132)).heap[w.heap.size]? = some (.cells #[.int .i64 0, .int .i64 0, .string ⟨#[]⟩] 37) := blk_alloc (heap_alloc_new w _) _
  have HP := hid hP
  have HB0 := hid hB0
  have Hb0 := hid hb0
  have S1 := hid s1
  have S2 := hid s2
  have S3 := hid s3
  clear hP hB0 hb0 s1 s2 s3
  have eS : snapB x = sealL (bodyS2 x) := rfl
  rw [eS]
  clear eS
  obtain ⟨xt, xi, xd⟩ := x
  simp only at *
  generalize bodyS2 ⟨xt, xi, xd⟩ = BD at *
  generalize sealL BD = SS at *
  go_enter Tryz.func59, Tryz.ntmps59
  go_wp2_with fail
  refine HU.out.mono ?_
  rintro e w1 ⟨rfl, hw1⟩
  obtain rfl := hw1
  go_wp2_with fail
  refine HR.out.mono ?_
  rintro e w1 ⟨rfl, rfl⟩
  have hz : (w.alloc (.cells #[.int .i64 0, .int .i64 0, .string ⟨#[]⟩] 37)).heap.size = w.heap.size + 1 := by simp
  rw [hz]
  generalize (w.alloc (.cells #[.int .i64 0, .int .i64 0, .string ⟨#[]⟩] 37)).alloc (.cells #[.string (strOf BD), .bool false] 132) = W1 at *
  have C1 := hid (pnum_any HP.out)
  rw [S1.out] at C1
  go_wp2_with fail
  refine C1.out.mono ?_
  rintro e w2 ⟨rfl, hp2, hg2⟩
  have C2 := hid (pnum_any hp2)
  rw [S2.out] at C2
  have HB2 := hid (grown_below2 HB0.out hg2 (by omega))
  have Hb2 := hid (grown_blk hg2 Hb0.out (by omega))
  clear hp2 hg2 C1
  go_wp2_with fail
  refine C2.out.mono ?_
  rintro e w3 ⟨rfl, hp3, hg3⟩
  have C3 := hid (ptext_any hp3 60000 (by omega) (by omega))
  rw [S3.out] at C3
  have HB3 := hid (grown_below2 HB2.out hg3 (by omega))
  have Hb3 := hid (grown_blk hg3 Hb2.out (by omega))
  clear hp3 hg3 C2
  go_wp2_with fail
  refine C3.out.mono ?_
  rintro e w4 ⟨rfl, hp4, hg4⟩
  have HB4 := hid (grown_below2 HB3.out hg4 (by omega))
  have Hb4 := hid (grown_blk hg4 Hb3.out (by omega))
  have HP4 := hid hp4
  clear hp4 hg4 C3
  go_wp2_with fail
  have hlt4 := lt_blk Hb4.out
  have hq4 := HP4.out.lt
  have HP5 : Hid (Pd (w4.alloc (.cells #[.int .i64 xt, .int .i64 xi, .string (strOf xd)] 37)) (w.heap.size + 1) ⟨[], false⟩) := hid (HP4.out.kept (by rw [blk_alloc HP4.out.box, HP4.out.box]))
  have C4 := hid (pdone_any HP5.out)
  have HB5 := hid (HB4.out.alloc HB4.out.size (.cells #[.int .i64 xt, .int .i64 xi, .string (strOf xd)] 37))
  have Hb5 := hid (blk_alloc Hb4.out (.cells #[.int .i64 xt, .int .i64 xi, .string (strOf xd)] 37))
  have Hx5 := hid (heap_alloc_new w4 (.cells #[.int .i64 xt, .int .i64 xi, .string (strOf xd)] 37))
  have hd1 : doneS ⟨[], false⟩ = true := rfl
  rw [hd1] at C4
  refine C4.out.mono ?_
  rintro e w5 ⟨rfl, rfl⟩
  generalize hX : w4.heap.size = X at *
  generalize w4.alloc (.cells #[.int .i64 xt, .int .i64 xi, .string (strOf xd)] 37) = W5 at *
  have cx0 : W5.cell? ⟨X, 0, none⟩ = some (.int .i64 xt) := cell_blk Hx5.out 0 _ rfl
  have cx1 : W5.cell? ⟨X, 1, none⟩ = some (.int .i64 xi) := cell_blk Hx5.out 1 _ rfl
  have cx2 : W5.cell? ⟨X, 2, none⟩ = some (.string (strOf xd)) := cell_blk Hx5.out 2 _ rfl
  have I1 := hid (isId_any xt W5)
  have I2 := hid (isId_any xi W5)
  rw [t1] at I1
  rw [t2] at I2
  go_wp2_with fail
  refine I2.out.mono ?_
  rintro e w6 ⟨rfl, rfl⟩
  go_wp2_with fail
  refine I1.out.mono ?_
  rintro e w6 ⟨rfl, rfl⟩
  have cr0 := cell_blk Hb5.out 0 _ rfl
  have cr1 := cell_blk Hb5.out 1 _ rfl
  have cr2 := cell_blk Hb5.out 2 _ rfl
  have fr0 := frozen_blk Hb5.out 0
  have fr1 := frozen_blk Hb5.out 1
  have fr2 := frozen_blk Hb5.out 2
  go_wp2_with fail
  refine bodyPost_ret (v := .tuple #[.agg #[.int .i64 xt, .int .i64 xi, .string (strOf xd)], .int .i64 0]) (by simp [results, Tryz.results59, go_sem, cr0, cr1, cr2]) rfl ⟨rfl, ?_⟩
  exact set3_below HB5.out (Nat.le_refl _) _ _ _
set_option maxHeartbeats 1600000 in
theorem loadSnap_yes {w : World} {U S q a v s size F} (hM : LogM w U q a v s) (hD : DiskA w S a size F) (x : Et) (ht : 1 ≤ x.t ∧ x.t ≤ 1000000000) (hi : 1 ≤ x.i ∧ x.i ≤ 1000000000) (hd : x.d.length ≤ 60000) (hF : alook F nS.data.toList = some ⟨nS.data.toList, snapB x, (snapB x).length⟩) :
    Calls Tryz.prog 41 #[.pointer (some ⟨q, 0, none⟩)] w fun e w' => e = .returned (.int .i64 0) ∧ ∃ w1, w' = ((w1.setCell ⟨q, 2, none⟩ (.int .i64 x.t)).setCell ⟨q, 3, none⟩ (.int .i64 x.i)).setCell ⟨q, 4, none⟩ (.string (strOf x.d)) ∧ Below w.heap.size w w1 := by
  have c7 := hM.c.c7
  have H24 : Hid (∀ W, Below w.heap.size w W → Calls Tryz.prog 28 #[.pointer (some ⟨q, 0, none⟩)] W fun e w' => e = .returned (.pointer (some ⟨a, 0, none⟩)) ∧ W = w') := fun W hW => ldisk_any (hM.under hW)
  have H48 : Hid (∀ W, Below w.heap.size w W → Calls Tryz.prog 55 #[.pointer (some ⟨a, 0, none⟩), .string nS] W fun e w' => e = .returned (.tuple #[.string (strOf (snapB x)), .int .i64 0]) ∧ Below w.heap.size w w' ∧ w'.cell? ⟨q, 7, none⟩ = some (.string ⟨#[114]⟩)) := fun W hW => by
    have h1 := readA (hD.under hW) nS (by decide)
    have e1 : abytes F nS.data.toList = snapB x := by unfold abytes; rw [hF]
    have e2 : synE F nS = 0 := by unfold synE; rw [hF]; rfl
    rw [e1, e2] at h1
    exact h1.mono fun e w' ⟨g1, g2⟩ => ⟨g1, hW.trans (g2.mono hW.size), (hM.under (hW.trans (g2.mono hW.size))).c.c7⟩
  have H54 : Hid (∀ W, Below w.heap.size w W → Calls Tryz.prog 59 #[.string (strOf (snapB x))] W fun e w' => e = .returned (.tuple #[.agg #[.int .i64 x.t, .int .i64 x.i, .string (strOf x.d)], .int .i64 0]) ∧ Below w.heap.size w w') := fun W hW => (readSnap_yes x W ht hi hd).mono fun e w' ⟨g1, g2⟩ => ⟨g1, hW.trans (g2.mono hW.size)⟩
  have HC : Hid (∀ W, Below w.heap.size w W → LC W q a v s) := fun W hW => (hM.under hW).c
  have HFZ : Hid (∀ W j, Below w.heap.size w W → W.frozen? ⟨q, j, none⟩ = false) := fun W j hW => frozen_blk (hM.under hW).box j
  have hn : (⟨#[114]⟩ ++ ⟨#[46, 115, 110, 97, 112]⟩ : ByteArray) = nS := by decide
  clear hM hD hF
  obtain ⟨xt, xi, xd⟩ := x
  simp only at *
  generalize snapB ⟨xt, xi, xd⟩ = TT at *
  go_enter Tryz.func41, Tryz.ntmps41
  go_wp2_with fail
  go_region_held3 (fun w' => w'.cell? ⟨q, 7, none⟩ = some (.string ⟨#[114]⟩)) (first | exact p3 | exact c7 | go_keep)
    (first
    | (go_at_call 28; refine (H24.out _ (by first | exact Below.refl _ _ | exact (Below.refl _ _).drew)).mono ?_; rintro e w2 ⟨rfl, rfl⟩)
    | (go_at_call 55; refine (H48.out _ (by first | exact Below.refl _ _ | exact (Below.refl _ _).drew)).mono ?_; rintro e w3 ⟨rfl, hb3, p3⟩)
    | fail)
  all_goals
    have HB3 := hid hb3
    clear hb3
    go_wp2_with fail
    refine (H54.out _ (by first | exact HB3.out | exact HB3.out.drew)).mono ?_
    rintro e w4 ⟨rfl, hb4⟩
    have HB4 := hid hb4
    have k2 := (HC.out _ hb4).c2
    have k3 := (HC.out _ hb4).c3
    have k4 := (HC.out _ hb4).c4
    have z2 := HFZ.out _ 2 hb4
    have z3 := HFZ.out _ 3 hb4
    have z4 := HFZ.out _ 4 hb4
    clear hb4
    go_wp2_with fail
    go_ret
    exact ⟨rfl, w4, rfl, HB4.out⟩
end Go.Proofs.YtclldpecbocclaaGreat

