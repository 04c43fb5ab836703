/- Load of what Keep wrote. -/
import Derived.Test.YtcffomhcmilcpaaGreatKB10
namespace Go.Proofs.YtcffomhcmilcpaaGreat
open Go.RowKit Go.Maps
set_option maxRecDepth 100000
set_option linter.unusedSimpArgs false
set_option linter.unusedVariables false

/-- An image that may be loaded. -/
structure LdOk (I : Im) : Prop where
  ok : ImOk I
  tp : TpOk I.tops
  nx : nxT I.tops = (I.parts.length : Int) + 1
theorem ImC.withA {w : World} {L : Nat → Prop} {q b : Nat} {vt vp ve : Value} {ps : List (Value × Pt)} {I : Im} (h : ImC w L q b vt vp ve ps I) (n : Int) (hok : ImOk { I with applied := n }) : ImC (w.setCell ⟨q, 0, none⟩ (.int .i64 n)) L q b vt vp ve ps { I with applied := n } := by
  have hN : ∀ k, k ≠ q → (w.setCell ⟨q, 0, none⟩ (.int .i64 n)).heap[k]? = w.heap[k]? := fun k hk => Below.heap_setCell _ _ _ _ hk
  refine ⟨set_box h.cells, ?_, row_kept h.tops (fun k hk => hN k (fun e => h.ne_q.1 (by rw [← e]; exact hk))), row_kept h.parts (fun k hk => hN k (fun e => h.ne_q.2.1 (by rw [← e]; exact hk))), row_kept h.eps (fun k hk => hN k (fun e => h.ne_q.2.2 (by rw [← e]; exact hk))), fun y hy => ?_, h.abs, fun k hk => ⟨by simpa using (h.lists k hk).1, (h.lists k hk).2⟩, hok⟩
  · obtain ⟨es2, clock, hm, r⟩ := h.bmap
    exact ⟨es2, clock, (hN b (fun e => h.ne_qb e.symm)).trans hm, r⟩
  · obtain ⟨h1, h2⟩ := h.each y hy
    exact ⟨h1.kept h2 (fun k hk => hN k (fun e => (h.lists k hk).2 (.inl e))) (by simp), h2⟩
theorem ok0 {I : Im} (h : ImOk I) : ImOk ⟨I.applied, [], [], [], []⟩ := ⟨by simp, by simp, by simp, by simp, by simp [sumT], by simp, by simp, by simp, by simp, h.app⟩
theorem ok2 {I : Im} (h : ImOk I) : ImOk ⟨I.applied, I.brs, I.tops, [], []⟩ := ⟨h.keys, h.brs, by simp, by simp, h.tops, h.name, h.nums, by simp, by simp, h.app⟩
theorem ok3 {I : Im} (h : ImOk I) : ImOk ⟨I.applied, I.brs, I.tops, I.parts, []⟩ := ⟨h.keys, h.brs, h.parts, h.few, h.tops, h.name, h.nums, by simp, by simp, h.app⟩
set_option maxHeartbeats 6400000 in
theorem load_good {U : World} {I : Im} (hl : LdOk I) : Calls Tryz.prog 16 #[.string (W.strOf (keepI I))] U fun e w' => ∃ q, e = .returned (.tuple #[.pointer (some ⟨q, 0, none⟩), .int .i64 0]) ∧ ∃ Z, Img w' Z q I ∧ (∀ k, Z k → U.heap.size ≤ k) ∧ Below U.heap.size U w' := by
  have hbl := body_len hl.ok
  have happ := hl.ok.app
  have HUN : Hid (Calls Tryz.prog 41 #[.string (W.strOf (keepI I))] U fun e w' => e = .returned (.tuple #[.string (W.strOf (bodyI I)), .int .i64 0]) ∧ w' = U) := by
    have := W.punseal_any (keepI I) U (by unfold keepI; rw [W.sealL_length]; omega)
    unfold keepI at this ⊢
    rw [if_neg (by rw [W.sealL_length]; omega), W.seal_four, W.seal_drop, if_neg (by simp)] at this
    exact this
  have HNW := hid (new_any U)
  have HRD := hid (fun V => pread_any (bodyI I) V (by unfold maxLen; omega))
  have HBY : Hid (bodyI I = W.intL I.applied ++ (W.intL (I.brs.length : Int) ++ (brB I.brs ++ (W.intL (I.tops.length : Int) ++ (tpB I.tops ++ (W.intL (I.parts.length : Int) ++ (ptB I.parts ++ (lstB I.eps ++ [])))))))) := by
    show _ = _
    unfold bodyI
    simp [List.append_assoc]
  have HL := hid hl
  have haI : I64 I.applied := by unfold I64; omega
  generalize W.strOf (keepI I) = ks at *
  clear hl
  go_enter Tryz.func16, Tryz.ntmps16
  go_wp2_with fail
  refine HUN.out.mono ?_
  rintro e U0 ⟨rfl, rfl⟩
  clear HUN
  go_wp2_with fail
  refine HNW.out.mono ?_
  rintro e U1 ⟨rfl, hi1, hb1⟩
  have H1 := hid (And.intro hi1 hb1)
  clear hi1 hb1 HNW
  go_wp2_with fail
  refine (HRD.out U1).mono ?_
  rintro e U2 ⟨rfl, hp2, hb2⟩
  have HS2 : Hid (LS U0 U2 (fun k => k = U0.heap.size ∨ k = U0.heap.size + 1) (U0.heap.size + 1) U1.heap.size Im.new (bodyI I)) := by
    have e1 := H1.out.1.lt (U0.heap.size + 1) (.inr rfl)
    exact ⟨⟨H1.out.1.under hb2, fun k hk => ⟨by omega, by omega⟩⟩, hp2, by omega, H1.out.2.trans (hb2.mono H1.out.2.size)⟩
  clear hp2 hb2 H1 HRD
  rw [HBY.out] at HS2
  generalize U0.heap.size + 1 = q at *
  generalize U1.heap.size = x at *
  go_wp2_with fail
  refine (HS2.out.int haI).mono ?_
  rintro e U3 ⟨rfl, ho⟩
  have h3 := ho.1
  obtain ⟨⟨⟨L, b, vt, vp, ve, ps, h1, hz1, hz2, hz3⟩, h2⟩, h4, h5, h6⟩ := id h3
  have c0 := h1.c0
  have f0 := h1.fz 0
  have HI3 : Hid (LE U0 (U3.setCell ⟨q, 0, none⟩ (.int .i64 I.applied)) q x (wBr ⟨I.applied, [], [], [], []⟩ []) (W.intL (I.brs.length : Int) ++ (brB I.brs ++ (W.intL (I.tops.length : Int) ++ (tpB I.tops ++ (W.intL (I.parts.length : Int) ++ (ptB I.parts ++ (lstB I.eps ++ [])))))))) := by
    have hqx : q ≠ x := (h2 q (hz1 q (.inl rfl))).2
    have hqw : U0.heap.size ≤ q := (h2 q (hz1 q (.inl rfl))).1
    exact ⟨_, ⟨⟨L, b, vt, vp, ve, ps, h1.withA I.applied (ok0 HL.out.ok), hz1, hz2, fun k hk => by simpa using hz3 k hk⟩, h2⟩, h4.kept (Below.heap_setCell _ _ _ _ (fun e => hqx e.symm)), h5, h6.setCell hqw _⟩
  have HCC : Hid ((U3.setCell ⟨q, 0, none⟩ (.int .i64 I.applied)).cell? ⟨q, 0, none⟩ = some (.int .i64 I.applied)) := (h1.withA I.applied (ok0 HL.out.ok)).c0
  clear ho h3 h1 h2 h4 h5 h6 hz1 hz2 hz3 HS2
  go_upto_region 6 with fail
  generalize U3.setCell ⟨q, 0, none⟩ (.int .i64 I.applied) = U4 at *
  have c0' := HCC.out
  have hge : 0 ≤ I.applied := happ.1
  clear c0 f0
  have HC1 := hid (HI3.out.choose_spec)
  go_wp2_with fail
  refine (readBrs_any HC1.out HL.out.ok.keys HL.out.ok.brs).mono ?_
  rintro e U5 ⟨rfl, h5⟩
  have H5 : Hid (LE U0 U5 q x (wTp ⟨I.applied, I.brs, [], [], []⟩ []) (W.intL (I.tops.length : Int) ++ (tpB I.tops ++ (W.intL (I.parts.length : Int) ++ (ptB I.parts ++ (lstB I.eps ++ [])))))) := ⟨_, h5⟩
  clear h5 HC1 HI3 c0' HCC
  go_wp2_with fail
  refine (readTops_any H5.out HL.out.tp (ok2 HL.out.ok)).mono ?_
  rintro e U6 ⟨rfl, h6⟩
  have H6 : Hid (LE U0 U6 q x (wPt ⟨I.applied, I.brs, I.tops, [], []⟩ []) (W.intL (I.parts.length : Int) ++ (ptB I.parts ++ (lstB I.eps ++ [])))) := h6
  clear h6 H5
  go_wp2_with fail
  refine (readParts_any H6.out HL.out.nx (ok3 HL.out.ok)).mono ?_
  rintro e U7 ⟨rfl, h7⟩
  have H7 : Hid (LE U0 U7 q x (wEp ⟨I.applied, I.brs, I.tops, I.parts, []⟩ []) (lstB I.eps ++ [])) := h7
  clear h7 H6
  go_wp2_with fail
  refine (readEps_any H7.out HL.out.ok).mono ?_
  rintro e U8 ⟨rfl, h8⟩
  have H8 : Hid (LE U0 U8 q x I []) := h8
  clear h8 H7
  go_wp2_with fail
  refine (H8.out.choose_spec.done).mono ?_
  rintro e U9 ⟨rfl, rfl⟩
  go_wp2_with fail
  go_ret2
  obtain ⟨Z, ⟨z1, z2⟩, z3, z4, z5⟩ := H8.out
  exact ⟨q, rfl, Z, z1, fun k hk => (z2 k hk).1, z5⟩
end Go.Proofs.YtcffomhcmilcpaaGreat

