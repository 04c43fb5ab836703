/- The document's read: ints, and its end. -/
import Derived.Test.YtocdlaoklagdoaaDoorRz
namespace Go.Proofs.YtocdlaoklagdoaaDoor
open Go.RowKit Go.Maps
set_option linter.unusedSimpArgs false
set_option linter.unusedVariables false
set_option maxRecDepth 100000

set_option maxHeartbeats 6400000 in
theorem rd_ints {w W : World} {q b : Nat} {l : List UInt8} {s : RS} {P : Int} {z0 z1 z2 z3 z4 z5 z6 z7 z8 z9 z10 z11 z12 z13 z14 z15 z16 z17 : Value} {z18 z19 : Value} {y1 y3 y6 y7 y8 y9 y10 y11 y12 y13 y14 y15 y16 y17 y18 y19 y20 y21 y22 y23 y24 y25 y26 y27 y28 y29 y30 y31 y32 y33 y34 y35 y36 y37 y38 y39 y40 y41 y42 y43 y44 y45 y46 y47 y48 y49 y50 y51 y52 y53 y54 y55 y56 y57 y58 y59 y60 y61 y62 y63 y64 y65 y66 y67 y68 y69 y70 y71 y72 y73 y74 y75 y76 y77 y78 y79 y80 y81 y82 y83 y84 y85 y86 y87 y88 y89 y90 y91 y92 y93 y94 y95 y96 y97 y98 y99 y100 y101 y102 y103 y104 y105 y106 y107 y108 y109 y110 y111 y112 y113 y114 y115 y116 y117 y118 y119 y120 y121 y122 y123 y124 y125 y126 y127 y128 y129 y130 y131 y132 y133 y134 y135 y136 y137 y138 y139 y140 y141 y142 y143 y144 y145 y146 y147 y148 y149 y150 y151 y152 y153 y154 y155 y156 y157 y158 y159 y160 y161 y162 y163 y164 y165 y166 y167 y168 y169 y170 y171 y172 y173 y174 y175 y176 y177 y178 y179 y180 y181 y182 y183 y184 y185 y186 y187 y188 y189 y190 y191 y192 y193 y194 y195 y196 y197 y198 y199 y200 y201 y202 y203 y204 y205 y206 y207 y208 y209 y210 y211 y212 y213 y214 y215 y216 y217 y218 y219 y220 y221 y222 y223 y224 y225 y226 y227 y228 y229 y230 y231 y232 y233 y234 y235 y236 y237 y238 y239 y240 y241 y242 y243 y244 y245 y246 : Value} (p2i : 0 ≤ P) (hP1 : P < 1048576) (HF0 : FAt w q b s #[z0, z1, z2, z3, z4, z5, z6, z7, z8, z9, z10, z11, z12, z13, z14, z15, z16, z17, z18, z19, .slice none 0 0] W)
    (HN0 : ∀ (B : Bool) (IS : List Int) (sI : RS) (ia : Option Addr) (ic2 : Nat) (V : World), hasB P 19 = B → optV B numS 256 257 s = (IS, sI) → Kept b W V → W.heap.size ≤ V.heap.size → IntsHi (b + 1) V ia IS → FAt w q b sI #[z0, z1, z2, z3, z4, z5, z6, z7, z8, z9, z10, z11, z12, z13, z14, z15, z16, z17, z18, z19, .slice ia IS.length ic2] V → EndOk w b l sI #[z0, z1, z2, z3, z4, z5, z6, z7, z8, z9, z10, z11, z12, z13, z14, z15, z16, z17, z18, z19, .slice ia IS.length ic2] V) :
    Code.wp Tryd.prog (tailAt 25 body30) (bodyPost Tryd.prog Tryd.f30 (fun e w' => RdPost l q w e w')) ⟨#[.pointer (some ⟨q, 0, none⟩), y1, .pointer (some ⟨w.heap.size, 0, none⟩), y3, .pointer (some ⟨b, 0, none⟩), .int .i64 P, y6, y7, y8, y9, y10, y11, y12, y13, y14, y15, y16, y17, y18, y19, y20, y21, y22, y23, y24, y25, y26, y27, y28, y29, y30, y31, y32, y33, y34, y35, y36, y37, y38, y39, y40, y41, y42, y43, y44, y45, y46, y47, y48, y49, y50, y51, y52, y53, y54, y55, y56, y57, y58, y59, y60, y61, y62, y63, y64, y65, y66, y67, y68, y69, y70, y71, y72, y73, y74, y75, y76, y77, y78, y79, y80, y81, y82, y83, y84, y85, y86, y87, y88, y89, y90, y91, y92, y93, y94, y95, y96, y97, y98, y99, y100, y101, y102, y103, y104, y105, y106, y107, y108, y109, y110, y111, y112, y113, y114, y115, y116, y117, y118, y119, y120, y121, y122, y123, y124, y125, y126, y127, y128, y129, y130, y131, y132, y133, y134, y135, y136, y137, y138, y139, y140, y141, y142, y143, y144, y145, y146, y147, y148, y149, y150, y151, y152, y153, y154, y155, y156, y157, y158, y159, y160, y161, y162, y163, y164, y165, y166, y167, y168, y169, y170, y171, y172, y173, y174, y175, y176, y177, y178, y179, y180, y181, y182, y183, y184, y185, y186, y187, y188, y189, y190, y191, y192, y193, y194, y195, y196, y197, y198, y199, y200, y201, y202, y203, y204, y205, y206, y207, y208, y209, y210, y211, y212, y213, y214, y215, y216, y217, y218, y219, y220, y221, y222, y223, y224, y225, y226, y227, y228, y229, y230, y231, y232, y233, y234, y235, y236, y237, y238, y239, y240, y241, y242, y243, y244, y245, y246], []⟩ W := by
  have HN := hid HN0
  have HF := hid HF0
  clear HN0 HF0
  obtain ⟨B, hB⟩ : ∃ B, hasB P 19 = B := ⟨_, rfl⟩
  have hq : (P / 524288 % 2 == 1) = B := hB
  have HNB := hid (fun IS sI ia ic2 V => HN.out B IS sI ia ic2 V hB)
  clear HN hB
  obtain ⟨i0, hi0, hz0, hz1, hz2⟩ := info3
  conv => arg 2; whnf
  go_upto_if 208 with fail
  go_cut [16, 17] from 18 (fun s16 s17 wx => ∃ (IS : List Int) (sI : RS) (ia : Option Addr) (ic2 : Nat), Hid (optV B numS 256 257 s = (IS, sI) ∧ FAt w q b sI #[z0, z1, z2, z3, z4, z5, z6, z7, z8, z9, z10, z11, z12, z13, z14, z15, z16, z17, z18, z19, .slice ia IS.length ic2] wx ∧ IntsHi (b + 1) wx ia IS ∧ Kept b W wx ∧ W.heap.size ≤ wx.heap.size))
  case first =>
    clear HNB
    cases B with
    | false =>
      have HO : Hid (optV false numS 256 257 s = ([], s) ∧ FAt w q b s #[z0, z1, z2, z3, z4, z5, z6, z7, z8, z9, z10, z11, z12, z13, z14, z15, z16, z17, z18, z19, .slice none ([] : List Int).length 0] W ∧ IntsHi (b + 1) W none [] ∧ Kept b W W ∧ W.heap.size ≤ W.heap.size) := ⟨rfl, HF.out, .inl rfl, fun _ _ _ => rfl, Nat.le_refl _⟩
      go_wp2_with fail
      go_meet
      exact ⟨[], s, none, 0, HO⟩
    | true =>
      have C := hid (rnumber_any HF.out.rd)
      have HOB : Hid (optV true numS 256 257 s = runR numS (numS s).1 256 257 0 [] (numS s).2) := rfl
      have hni := numS_i64 s
      generalize numS s = NN at *
      obtain ⟨n, s0⟩ := NN
      simp only at C HOB hni
      obtain ⟨hn1, hn2⟩ := hni
      go_wp2_with fail
      refine C.out.mono ?_
      rintro e w5 ⟨rfl, hr5, hg5⟩
      have F5 := hid (OAt.start 3 1 HF.out hr5 hg5)
      clear hr5 hg5 C HF
      go_wp2_with fail
      go_loopg [17] 257 (fun kx sk wx => ∃ (k : Nat) (s' : RS) (sv : Value) (xs : List Int), k ≤ 257 ∧ 257 - k ≤ kx ∧ sk = .int .i64 k ∧ Hid (optV true numS 256 257 s = runR numS n 256 (257 - k) k xs s' ∧ OAt w W q b 3 1 s' #[z0, z1, z2, z3, z4, z5, z6, z7, z8, z9, z10, z11, z12, z13, z14, z15, z16, z17, z18, z19, sv] sv k (ic xs) wx ∧ xs.length = k))
      case atStart => exact ⟨0, s0, .slice none 0 0, [], by omega, by omega, rfl, HOB.out, F5.out, rfl⟩
      case round =>
        clear F5 HOB
        obtain ⟨k, s', sv, xs, hk, hkx, rfl, HD⟩ := hrel
        have d0 := HD.out.2.1.fat.rd.c0
        have d1 := HD.out.2.1.fat.rd.c1
        by_cases c1 : (k : Int) < n
        case neg =>
              have hst := hid (runR_stop numS n 256 (257 - k) k xs s' (by first | omega | (intro h; exact Bool.noConfusion (hw.symm.trans h.2.2))))
              obtain ⟨ia, ic2, hv, hhi⟩ := ints_of_row (by rw [HD.out.2.2]; exact HD.out.2.1.row)
              have HO : Hid (optV true numS 256 257 s = (xs, s') ∧ FAt w q b s' #[z0, z1, z2, z3, z4, z5, z6, z7, z8, z9, z10, z11, z12, z13, z14, z15, z16, z17, z18, z19, .slice ia xs.length ic2] wr ∧ IntsHi (b + 1) wr ia xs ∧ Kept b W wr ∧ W.heap.size ≤ wr.heap.size) := ⟨HD.out.1.trans hst.out, by rw [← hv]; exact HD.out.2.1.fat, hhi.low (by have := HD.out.2.1.hi; omega), HD.out.2.1.keep, HD.out.2.1.size⟩
              clear hst hv hhi
              go_wp2_with fail
              go_meet
              exact ⟨xs, s', ia, ic2, HO⟩

        by_cases c2 : k ≤ 256
        case neg =>
              have c2' : ¬ (k : Int) ≤ 256 := by omega
              have hst := hid (runR_stop numS n 256 (257 - k) k xs s' (by first | omega | (intro h; exact Bool.noConfusion (hw.symm.trans h.2.2))))
              obtain ⟨ia, ic2, hv, hhi⟩ := ints_of_row (by rw [HD.out.2.2]; exact HD.out.2.1.row)
              have HO : Hid (optV true numS 256 257 s = (xs, s') ∧ FAt w q b s' #[z0, z1, z2, z3, z4, z5, z6, z7, z8, z9, z10, z11, z12, z13, z14, z15, z16, z17, z18, z19, .slice ia xs.length ic2] wr ∧ IntsHi (b + 1) wr ia xs ∧ Kept b W wr ∧ W.heap.size ≤ wr.heap.size) := ⟨HD.out.1.trans hst.out, by rw [← hv]; exact HD.out.2.1.fat, hhi.low (by have := HD.out.2.1.hi; omega), HD.out.2.1.keep, HD.out.2.1.size⟩
              clear hst hv hhi
              go_wp2_with fail
              go_meet
              exact ⟨xs, s', ia, ic2, HO⟩

        have c2' : (k : Int) ≤ 256 := by omega
        cases hw : s'.wrong with
        | true =>
              rw [hw] at d1
              have hst := hid (runR_stop numS n 256 (257 - k) k xs s' (by first | omega | (intro h; exact Bool.noConfusion (hw.symm.trans h.2.2))))
              obtain ⟨ia, ic2, hv, hhi⟩ := ints_of_row (by rw [HD.out.2.2]; exact HD.out.2.1.row)
              have HO : Hid (optV true numS 256 257 s = (xs, s') ∧ FAt w q b s' #[z0, z1, z2, z3, z4, z5, z6, z7, z8, z9, z10, z11, z12, z13, z14, z15, z16, z17, z18, z19, .slice ia xs.length ic2] wr ∧ IntsHi (b + 1) wr ia xs ∧ Kept b W wr ∧ W.heap.size ≤ wr.heap.size) := ⟨HD.out.1.trans hst.out, by rw [← hv]; exact HD.out.2.1.fat, hhi.low (by have := HD.out.2.1.hi; omega), HD.out.2.1.keep, HD.out.2.1.size⟩
              clear hst hv hhi
              go_wp2_with fail
              go_meet
              exact ⟨xs, s', ia, ic2, HO⟩

        | false =>
              rw [hw] at d1
              obtain ⟨sa, sn, sc, hsv⟩ := own_slice HD.out.2.1.row
              subst hsv
              have HGO : Hid (runR numS n 256 (257 - k) k xs s' = runR numS n 256 (257 - (k + 1)) (k + 1) (xs ++ [(numS s').1]) (numS s').2) := by
                show _ = _
                have e : 257 - k = (257 - (k + 1)) + 1 := by omega
                rw [e]
                exact runR_go numS n 256 _ k xs s' c1 c2' hw
              have d20 := cell_blk HD.out.2.1.fat.box 20 (.slice sa sn sc) rfl
              have H41 : Hid (∀ V, V.heap = wr.heap → V.os = wr.os → V.tape = wr.tape → V.output = wr.output → Calls Tryd.prog 41 #[.pointer (some ⟨q, 0, none⟩)] V fun e w' => e = .returned (.int .i64 (numS s').1) ∧ Rf w' q (numS s').2 ∧ wr.grownBy w' (some q)) := fun V h1 h2 h3 h4 =>
                (rnumber_any (HD.out.2.1.fat.rd.kept (by rw [h1]))).mono fun e w' ⟨e1, e2, e3⟩ => ⟨e1, e2, ⟨e3.os.trans h2, e3.tape.trans h3, e3.output.trans h4, by have := e3.size; rw [h1] at this; exact this, fun j hj hne => by have := e3.block j (by rw [h1]; exact hj) hne; rw [h1] at this; exact this⟩⟩
              have HO4 : Hid (∀ w4, Rf w4 q (numS s').2 → wr.grownBy w4 (some q) → OAt w W q b 3 1 (numS s').2 #[z0, z1, z2, z3, z4, z5, z6, z7, z8, z9, z10, z11, z12, z13, z14, z15, z16, z17, z18, z19, .slice sa sn sc] (.slice sa sn sc) k (ic xs) w4) := fun w4 h1 h2 => HD.out.2.1.call h1 h2
              have HLN := hid HD.out.2.2
              have HEQ := hid HD.out.1
              have hWs : W.heap.size ≤ wr.heap.size := HD.out.2.1.size
              generalize numS s' = NN at *
              obtain ⟨X, s1⟩ := NN
              simp only at H41 HO4 HGO
              clear HD
              go_wp2
              go_region_law (first
                | (refine step_call41 rfl 229 rfl (.pointer (some ⟨q, 0, none⟩)) (by simp [Act.eval, Act.put]) (H41.out wr.drew rfl rfl rfl rfl) ?_; rintro e w4 ⟨rfl, hr4, hg4⟩; refine ⟨_, rfl, ?_⟩; have O4 := hid (HO4.out w4 hr4 hg4); have hs4 := hg4.size; have d4 := cell_blk O4.out.fat.box 20 (.slice sa sn sc) rfl; have d4b := fun O => cell_blk (O4.out.alloc O).fat.box 20 (.slice sa sn sc) rfl)
                | (refine step_append_lies _ (by rfl) (.tmp 228) (.tmp 231) 25 (by rfl) W.heap.size 3 i0 _ 1 8 Tryd.underlying25 hi0 hz0 hz1 hz2 rfl (by decide) (.slice sa sn sc) k (ic xs) (by simp [Act.eval, Act.put]) (by exact (O4.out.alloc _).row) ⟨w4.heap.size, 0, none⟩ 1 1 [.int .i64 X] (by simp [Act.eval, Act.put]) rfl (by exact one_cell rfl) (by simp [Value.oneCell']) (by decide) (by unfold maxLen; omega) (by omega) (by simp; omega) (w4.heap.size + 1) (by simp) ?_; intro g cap w5 hown5 hg5 hat5 hlt5; have O5 := hid ((O4.out.alloc _).app hown5 hg5); have d5 := cell_blk O5.out.fat.box 20 (.slice sa sn sc) rfl; have f5 := frozen_blk O5.out.fat.box 20; have E5 : Hid (OAt w W q b 3 1 s1 #[z0, z1, z2, z3, z4, z5, z6, z7, z8, z9, z10, z11, z12, z13, z14, z15, z16, z17, z18, z19, .slice (some ⟨g, 0, none⟩) (k + 1) cap] (.slice (some ⟨g, 0, none⟩) (k + 1) cap) (k + 1) (ic (xs ++ [X])) (w5.setCell ⟨b, 20, none⟩ (.slice (some ⟨g, 0, none⟩) (k + 1) cap))) := by (have h := O5.out.put 20 (.slice (some ⟨g, 0, none⟩) (k + 1) cap); simp only [ic, List.map_append, List.map_cons, List.map_nil] at h ⊢; exact h))
                | fail)
              all_goals
                go_wp2
                go_roundg (257 - (k + 1))
                case measure => omega
                case rel => exact ⟨k + 1, s1, _, xs ++ [X], by omega, Nat.le_refl _, by go_num, HEQ.out.trans HGO.out, E5.out, by have := HLN.out; simp; omega⟩

  case rest =>
    rename_i Q1 K1 hK1
    obtain ⟨IS, sI, ia, ic2, hcut⟩ := hcut
    refine hK1 _ _ ?_
    exact rd_end hcut.out.2.1 (HNB.out IS sI ia ic2 _ hcut.out.1 hcut.out.2.2.2.1 hcut.out.2.2.2.2 hcut.out.2.2.1 hcut.out.2.1)
end Go.Proofs.YtocdlaoklagdoaaDoor
