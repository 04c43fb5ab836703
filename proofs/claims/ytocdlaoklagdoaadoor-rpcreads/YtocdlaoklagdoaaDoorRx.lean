/- The document's read: entries, and what follows. -/
import Derived.Test.YtocdlaoklagdoaaDoorRy
namespace Go.Proofs.YtocdlaoklagdoaaDoor
open Go.RowKit Go.Maps
set_option linter.unusedSimpArgs false
set_option linter.unusedVariables false
set_option maxRecDepth 100000

set_option maxHeartbeats 6400000 in
theorem rd_ents {w W : World} {q b : Nat} {l : List UInt8} {s : RS} {P : Int} {z0 z1 z2 z3 z4 z5 z6 z7 z8 z9 z10 z11 z12 z13 z14 z15 z16 z17 : Value} {z18 : Value} {y1 y3 y6 y7 y8 y9 y10 y11 y12 y13 y14 y15 y16 y17 y18 y19 y20 y21 y22 y23 y24 y25 y26 y27 y28 y29 y30 y31 y32 y33 y34 y35 y36 y37 y38 y39 y40 y41 y42 y43 y44 y45 y46 y47 y48 y49 y50 y51 y52 y53 y54 y55 y56 y57 y58 y59 y60 y61 y62 y63 y64 y65 y66 y67 y68 y69 y70 y71 y72 y73 y74 y75 y76 y77 y78 y79 y80 y81 y82 y83 y84 y85 y86 y87 y88 y89 y90 y91 y92 y93 y94 y95 y96 y97 y98 y99 y100 y101 y102 y103 y104 y105 y106 y107 y108 y109 y110 y111 y112 y113 y114 y115 y116 y117 y118 y119 y120 y121 y122 y123 y124 y125 y126 y127 y128 y129 y130 y131 y132 y133 y134 y135 y136 y137 y138 y139 y140 y141 y142 y143 y144 y145 y146 y147 y148 y149 y150 y151 y152 y153 y154 y155 y156 y157 y158 y159 y160 y161 y162 y163 y164 y165 y166 y167 y168 y169 y170 y171 y172 y173 y174 y175 y176 y177 y178 y179 y180 y181 y182 y183 y184 y185 y186 y187 y188 y189 y190 y191 y192 y193 y194 y195 y196 y197 y198 y199 y200 y201 y202 y203 y204 y205 y206 y207 y208 y209 y210 y211 y212 y213 y214 y215 y216 y217 y218 y219 y220 y221 y222 y223 y224 y225 y226 y227 y228 y229 y230 y231 y232 y233 y234 y235 y236 y237 y238 y239 y240 y241 y242 y243 y244 y245 y246 : Value} (p2i : 0 ≤ P) (hP1 : P < 1048576) (HF0 : FAt w q b s #[z0, z1, z2, z3, z4, z5, z6, z7, z8, z9, z10, z11, z12, z13, z14, z15, z16, z17, z18, .slice none 0 0, .slice none 0 0] W)
    (HN0 : ∀ (B : Bool) (IS : List Ent) (sI : RS) (ia : Option Addr) (ic2 : Nat) (V : World), hasB P 18 = B → optV B entR 64 65 s = (IS, sI) → Kept b W V → W.heap.size ≤ V.heap.size → EntsHi (b + 1) V ia IS → FAt w q b sI #[z0, z1, z2, z3, z4, z5, z6, z7, z8, z9, z10, z11, z12, z13, z14, z15, z16, z17, z18, .slice ia IS.length ic2, .slice none 0 0] V → (∀ (B : Bool) (JS : List Int) (sJ : RS) (ja : Option Addr) (jc2 : Nat) (V' : World), hasB P 19 = B → optV B numS 256 257 sI = (JS, sJ) → Kept b V V' → V.heap.size ≤ V'.heap.size → IntsHi (b + 1) V' ja JS → FAt w q b sJ #[z0, z1, z2, z3, z4, z5, z6, z7, z8, z9, z10, z11, z12, z13, z14, z15, z16, z17, z18, .slice ia IS.length ic2, .slice ja JS.length jc2] V' → EndOk w b l sJ #[z0, z1, z2, z3, z4, z5, z6, z7, z8, z9, z10, z11, z12, z13, z14, z15, z16, z17, z18, .slice ia IS.length ic2, .slice ja JS.length jc2] V')) :
    Code.wp Tryd.prog (tailAt 24 body30) (bodyPost Tryd.prog Tryd.f30 (fun e w' => RdPost l q w e w')) ⟨#[.pointer (some ⟨q, 0, none⟩), y1, .pointer (some ⟨w.heap.size, 0, none⟩), y3, .pointer (some ⟨b, 0, none⟩), .int .i64 P, y6, y7, y8, y9, y10, y11, y12, y13, y14, y15, y16, y17, y18, y19, y20, y21, y22, y23, y24, y25, y26, y27, y28, y29, y30, y31, y32, y33, y34, y35, y36, y37, y38, y39, y40, y41, y42, y43, y44, y45, y46, y47, y48, y49, y50, y51, y52, y53, y54, y55, y56, y57, y58, y59, y60, y61, y62, y63, y64, y65, y66, y67, y68, y69, y70, y71, y72, y73, y74, y75, y76, y77, y78, y79, y80, y81, y82, y83, y84, y85, y86, y87, y88, y89, y90, y91, y92, y93, y94, y95, y96, y97, y98, y99, y100, y101, y102, y103, y104, y105, y106, y107, y108, y109, y110, y111, y112, y113, y114, y115, y116, y117, y118, y119, y120, y121, y122, y123, y124, y125, y126, y127, y128, y129, y130, y131, y132, y133, y134, y135, y136, y137, y138, y139, y140, y141, y142, y143, y144, y145, y146, y147, y148, y149, y150, y151, y152, y153, y154, y155, y156, y157, y158, y159, y160, y161, y162, y163, y164, y165, y166, y167, y168, y169, y170, y171, y172, y173, y174, y175, y176, y177, y178, y179, y180, y181, y182, y183, y184, y185, y186, y187, y188, y189, y190, y191, y192, y193, y194, y195, y196, y197, y198, y199, y200, y201, y202, y203, y204, y205, y206, y207, y208, y209, y210, y211, y212, y213, y214, y215, y216, y217, y218, y219, y220, y221, y222, y223, y224, y225, y226, y227, y228, y229, y230, y231, y232, y233, y234, y235, y236, y237, y238, y239, y240, y241, y242, y243, y244, y245, y246], []⟩ W := by
  have HN := hid HN0
  have HF := hid HF0
  clear HN0 HF0
  obtain ⟨B, hB⟩ : ∃ B, hasB P 18 = B := ⟨_, rfl⟩
  have hq : (P / 262144 % 2 == 1) = B := hB
  have HNB := hid (fun IS sI ia ic2 V => HN.out B IS sI ia ic2 V hB)
  clear HN hB
  obtain ⟨i0, hi0, hz0, hz1, hz2⟩ := info52
  conv => arg 2; whnf
  go_upto_if 171 with fail
  go_cut [13, 14, 15] from 18 (fun s13 s14 s15 wx => ∃ (IS : List Ent) (sI : RS) (ia : Option Addr) (ic2 : Nat), Hid (optV B entR 64 65 s = (IS, sI) ∧ FAt w q b sI #[z0, z1, z2, z3, z4, z5, z6, z7, z8, z9, z10, z11, z12, z13, z14, z15, z16, z17, z18, .slice ia IS.length ic2, .slice none 0 0] wx ∧ EntsHi (b + 1) wx ia IS ∧ Kept b W wx ∧ W.heap.size ≤ wx.heap.size))
  case first =>
    clear HNB
    cases B with
    | false =>
      have HO : Hid (optV false entR 64 65 s = ([], s) ∧ FAt w q b s #[z0, z1, z2, z3, z4, z5, z6, z7, z8, z9, z10, z11, z12, z13, z14, z15, z16, z17, z18, .slice none ([] : List Ent).length 0, .slice none 0 0] W ∧ EntsHi (b + 1) W none [] ∧ Kept b W W ∧ W.heap.size ≤ W.heap.size) := ⟨rfl, HF.out, .inl rfl, fun _ _ _ => rfl, Nat.le_refl _⟩
      go_wp2_with fail
      go_meet
      exact ⟨[], s, none, 0, HO⟩
    | true =>
      have C := hid (rnumber_any HF.out.rd)
      have HOB : Hid (optV true entR 64 65 s = runR entR (numS s).1 64 65 0 [] (numS s).2) := rfl
      have hni := numS_i64 s
      generalize numS s = NN at *
      obtain ⟨n, s0⟩ := NN
      simp only at C HOB hni
      obtain ⟨hn1, hn2⟩ := hni
      go_wp2_with fail
      refine C.out.mono ?_
      rintro e w5 ⟨rfl, hr5, hg5⟩
      have F5 := hid (OAt.start 52 3 HF.out hr5 hg5)
      clear hr5 hg5 C HF
      go_wp2_with fail
      go_loopg [14] 65 (fun kx sk wx => ∃ (k : Nat) (s' : RS) (sv : Value) (xs : List Ent), k ≤ 65 ∧ 65 - k ≤ kx ∧ sk = .int .i64 k ∧ Hid (optV true entR 64 65 s = runR entR n 64 (65 - k) k xs s' ∧ OAt w W q b 52 3 s' #[z0, z1, z2, z3, z4, z5, z6, z7, z8, z9, z10, z11, z12, z13, z14, z15, z16, z17, z18, sv, .slice none 0 0] sv k (flatE xs) wx ∧ xs.length = k))
      case atStart => exact ⟨0, s0, .slice none 0 0, [], by omega, by omega, rfl, HOB.out, F5.out, rfl⟩
      case round =>
        clear F5 HOB
        obtain ⟨k, s', sv, xs, hk, hkx, rfl, HD⟩ := hrel
        have d0 := HD.out.2.1.fat.rd.c0
        have d1 := HD.out.2.1.fat.rd.c1
        by_cases c1 : (k : Int) < n
        case neg =>
              have hst := hid (runR_stop entR n 64 (65 - k) k xs s' (by first | omega | (intro h; exact Bool.noConfusion (hw.symm.trans h.2.2))))
              obtain ⟨ia, ic2, hv, hhi⟩ := ents_of_row (by rw [HD.out.2.2]; exact HD.out.2.1.row)
              have HO : Hid (optV true entR 64 65 s = (xs, s') ∧ FAt w q b s' #[z0, z1, z2, z3, z4, z5, z6, z7, z8, z9, z10, z11, z12, z13, z14, z15, z16, z17, z18, .slice ia xs.length ic2, .slice none 0 0] wr ∧ EntsHi (b + 1) wr ia xs ∧ Kept b W wr ∧ W.heap.size ≤ wr.heap.size) := ⟨HD.out.1.trans hst.out, by rw [← hv]; exact HD.out.2.1.fat, hhi.low (by have := HD.out.2.1.hi; omega), HD.out.2.1.keep, HD.out.2.1.size⟩
              clear hst hv hhi
              go_wp2_with fail
              go_meet
              exact ⟨xs, s', ia, ic2, HO⟩

        by_cases c2 : k ≤ 64
        case neg =>
              have c2' : ¬ (k : Int) ≤ 64 := by omega
              have hst := hid (runR_stop entR n 64 (65 - k) k xs s' (by first | omega | (intro h; exact Bool.noConfusion (hw.symm.trans h.2.2))))
              obtain ⟨ia, ic2, hv, hhi⟩ := ents_of_row (by rw [HD.out.2.2]; exact HD.out.2.1.row)
              have HO : Hid (optV true entR 64 65 s = (xs, s') ∧ FAt w q b s' #[z0, z1, z2, z3, z4, z5, z6, z7, z8, z9, z10, z11, z12, z13, z14, z15, z16, z17, z18, .slice ia xs.length ic2, .slice none 0 0] wr ∧ EntsHi (b + 1) wr ia xs ∧ Kept b W wr ∧ W.heap.size ≤ wr.heap.size) := ⟨HD.out.1.trans hst.out, by rw [← hv]; exact HD.out.2.1.fat, hhi.low (by have := HD.out.2.1.hi; omega), HD.out.2.1.keep, HD.out.2.1.size⟩
              clear hst hv hhi
              go_wp2_with fail
              go_meet
              exact ⟨xs, s', ia, ic2, HO⟩

        have c2' : (k : Int) ≤ 64 := by omega
        cases hw : s'.wrong with
        | true =>
              rw [hw] at d1
              have hst := hid (runR_stop entR n 64 (65 - k) k xs s' (by first | omega | (intro h; exact Bool.noConfusion (hw.symm.trans h.2.2))))
              obtain ⟨ia, ic2, hv, hhi⟩ := ents_of_row (by rw [HD.out.2.2]; exact HD.out.2.1.row)
              have HO : Hid (optV true entR 64 65 s = (xs, s') ∧ FAt w q b s' #[z0, z1, z2, z3, z4, z5, z6, z7, z8, z9, z10, z11, z12, z13, z14, z15, z16, z17, z18, .slice ia xs.length ic2, .slice none 0 0] wr ∧ EntsHi (b + 1) wr ia xs ∧ Kept b W wr ∧ W.heap.size ≤ wr.heap.size) := ⟨HD.out.1.trans hst.out, by rw [← hv]; exact HD.out.2.1.fat, hhi.low (by have := HD.out.2.1.hi; omega), HD.out.2.1.keep, HD.out.2.1.size⟩
              clear hst hv hhi
              go_wp2_with fail
              go_meet
              exact ⟨xs, s', ia, ic2, HO⟩

        | false =>
              rw [hw] at d1
              obtain ⟨sa, sn, sc, hsv⟩ := own_slice HD.out.2.1.row
              subst hsv
              have HGO : Hid (runR entR n 64 (65 - k) k xs s' = runR entR n 64 (65 - (k + 1)) (k + 1) (xs ++ [(entR s').1]) (entR s').2) := by
                show _ = _
                have e : 65 - k = (65 - (k + 1)) + 1 := by omega
                rw [e]
                exact runR_go entR n 64 _ k xs s' c1 c2' hw
              have C1 := hid (rnumber_any HD.out.2.1.fat.rd)
              have HLN := hid HD.out.2.2
              have HEQ := hid HD.out.1
              have O1 := hid HD.out.2.1
              have hWs : W.heap.size ≤ wr.heap.size := HD.out.2.1.size
              have HEN : Hid (entR s' = (⟨(numS s').1, (numS (numS s').2).1, (textR 65536 (numS (numS s').2).2).1⟩, (textR 65536 (numS (numS s').2).2).2)) := rfl
              clear HD
              go_wp2_with fail
              refine C1.out.mono ?_
              rintro e w1 ⟨rfl, hr1, hg1⟩
              have O2 := hid (O1.out.call hr1 hg1)
              have hs1 : W.heap.size ≤ w1.heap.size := O2.out.size
              have ho1 : (Value.slice sa sn sc).ownBlock ≠ some w1.heap.size := fun e => by have := (O2.out.own _ e).2; omega
              have HOW := hid ho1
              clear hr1 hg1 C1 O1 ho1
              generalize numS s' = N1 at *
              obtain ⟨t, s1⟩ := N1
              simp only at O2 HEN
              go_wp2_with fail
              have O3 := hid (O2.out.alloc (.cells #[.int .i64 t, .int .i64 0, .string ⟨#[]⟩] 52))
              have X3 := hid (heap_alloc_new w1 (.cells #[.int .i64 t, .int .i64 0, .string ⟨#[]⟩] 52))
              have C2 := hid (rnumber_any O3.out.fat.rd)
              have hqb : q < w1.heap.size := by have := O2.out.fat.low; have := O2.out.fat.mid; have := O2.out.hi; omega
              have hbb : b < w1.heap.size := by have := O2.out.hi; omega
              have hne : ¬ b = w1.heap.size := by omega
              clear O2
              refine C2.out.mono ?_
              rintro e w2 ⟨rfl, hr2, hg2⟩
              have O4 := hid (O3.out.call hr2 hg2)
              have X4 : Hid (w2.heap[w1.heap.size]? = some (.cells #[.int .i64 t, .int .i64 0, .string ⟨#[]⟩] 52)) := (hg2.block _ (by simp) (fun e => by cases e; omega)).trans X3.out
              clear hr2 hg2 C2 O3 X3
              generalize numS s1 = N2 at *
              obtain ⟨ix, s2⟩ := N2
              simp only at O4 HEN
              have e1 := cell_blk X4.out 1 (.int .i64 0) rfl
              have f1 := frozen_blk X4.out 1
              have O5 := hid (O4.out.else w1.heap.size 1 (.int .i64 ix) hs1 HOW.out)
              have X5 : Hid ((w2.setCell ⟨w1.heap.size, 1, none⟩ (.int .i64 ix)).heap[w1.heap.size]? = some (.cells #[.int .i64 t, .int .i64 ix, .string ⟨#[]⟩] 52)) := by
                show _ = _
                rw [setCell_eq_setRow w2 w1.heap.size 1 _ 52 (0, 0) _ X4.out, setRow_heap w2 w1.heap.size _ _ 52 (0, 0) X4.out]
                rfl
              have C3 := hid (rtext_any O5.out.fat.rd 65536 (by omega) (by omega))
              go_wp2_with fail
              refine C3.out.mono ?_
              rintro e w3 ⟨rfl, hr3, hg3⟩
              have O6 := hid (O5.out.call hr3 hg3)
              have X6 : Hid (w3.heap[w1.heap.size]? = some (.cells #[.int .i64 t, .int .i64 ix, .string ⟨#[]⟩] 52)) := (hg3.block _ (lt_of_row X5.out) (fun e => by cases e; omega)).trans X5.out
              clear hr3 hg3 C3 O5 X5 O4 X4 e1 f1
              generalize textR 65536 s2 = N3 at *
              obtain ⟨dt, s3⟩ := N3
              simp only at O6 HEN
              have e2 := cell_blk X6.out 2 (.string ⟨#[]⟩) rfl
              have f2 := frozen_blk X6.out 2
              have g0 := cell_blk X6.out 0 (.int .i64 t) rfl
              have g1 := cell_blk X6.out 1 (.int .i64 ix) rfl
              have d19 := cell_blk O6.out.fat.box 19 (.slice sa sn sc) rfl
              have O7 := hid (O6.out.else w1.heap.size 2 (.string (strOf dt)) hs1 HOW.out)
              have hz7 : (w3.setCell ⟨w1.heap.size, 2, none⟩ (.string (strOf dt))).heap.size = w3.heap.size := set_size _ _ _
              have OW := hid (O7.out.alloc (.cells #[.int .i64 t, .int .i64 ix, .string (strOf dt)] 52)).row
              have hW3 : W.heap.size ≤ w3.heap.size := O6.out.size
              have HEN2 := hid HEN.out
              clear O6 X6
              go_wp2_with (first | (at_builtin; (refine wpList_append_own_at _ rfl _ _ 24 rfl W.heap.size 52 i0 _ 3 32 Tryd.underlying24 hi0 hz0 hz1 hz2 rfl (by decide) _ k (flatE xs) rfl OW.out ⟨w3.heap.size, 0, none⟩ 1 1 (entC ⟨t, ix, dt⟩) rfl rfl (ent_news ⟨t, ix, dt⟩ hz7.symm) (by simp [Value.oneCell', entC]) (by unfold maxLen; omega) (by omega) (by simp; omega) ?_; intro v' w10 hown10 hg10 _ hat; obtain ⟨va, vn, vc, hv'⟩ := own_slice hown10; subst hv'; have O10 := hid ((O7.out.alloc _).app hown10 hg10); have c19b := cell_blk O10.out.fat.box 19 (.slice sa sn sc) rfl; have f19 := frozen_blk O10.out.fat.box 19)) | fail)
              have O11 : Hid (OAt w W q b 52 3 s3 #[z0, z1, z2, z3, z4, z5, z6, z7, z8, z9, z10, z11, z12, z13, z14, z15, z16, z17, z18, .slice va vn vc, .slice none 0 0] (.slice va vn vc) (k + 1) (flatE (xs ++ [⟨t, ix, dt⟩])) (w10.setCell ⟨b, 19, none⟩ (.slice va vn vc))) := by
                have e : flatE (xs ++ [⟨t, ix, dt⟩]) = flatE xs ++ entC ⟨t, ix, dt⟩ := by rw [flatE_append]; simp only [flatE, List.append_nil]
                rw [e]
                exact O10.out.put 19 (.slice va vn vc)
              have HN1 : Hid (optV true entR 64 65 s = runR entR n 64 (65 - (k + 1)) (k + 1) (xs ++ [⟨t, ix, dt⟩]) s3) := by
                show _ = _
                rw [HEQ.out, HGO.out, HEN2.out]
              clear O10 c19b f19 hown10 hg10 hat
              go_roundg (65 - (k + 1))
              case measure => omega
              case rel => exact ⟨k + 1, s3, .slice va vn vc, xs ++ [⟨t, ix, dt⟩], by omega, Nat.le_refl _, by go_num, HN1.out, O11.out, by have := HLN.out; simp; omega⟩

  case rest =>
    rename_i Q1 K1 hK1
    obtain ⟨IS, sI, ia, ic2, hcut⟩ := hcut
    refine hK1 _ _ ?_
    exact rd_ints p2i hP1 hcut.out.2.1 (HNB.out IS sI ia ic2 _ hcut.out.1 hcut.out.2.2.2.1 hcut.out.2.2.2.2 hcut.out.2.2.1 hcut.out.2.1)
end Go.Proofs.YtocdlaoklagdoaaDoor
