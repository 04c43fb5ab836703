/- The document's read: batches, and what follows. -/
import Derived.Test.YtocdlaoklagdoaaDoorRx
namespace Go.Proofs.YtocdlaoklagdoaaDoor
open Go.RowKit Go.Maps
set_option linter.unusedSimpArgs false
set_option linter.unusedVariables false
set_option maxRecDepth 100000

set_option maxHeartbeats 6400000 in
theorem rd_bats {w W : World} {q b : Nat} {l : List UInt8} {s_ : RS} {P : Int} {z0 z1 z2 z3 z4 z5 z6 z7 z8 z9 z10 z11 z12 z13 z14 z15 z16 z17 : Value} {y1 y3 y6 y7 y8 y9 y10 y11 y12 y13 y14 y15 y16 y17 y18 y19 y20 y21 y22 y23 y24 y25 y26 y27 y28 y29 y30 y31 y32 y33 y34 y35 y36 y37 y38 y39 y40 y41 y42 y43 y44 y45 y46 y47 y48 y49 y50 y51 y52 y53 y54 y55 y56 y57 y58 y59 y60 y61 y62 y63 y64 y65 y66 y67 y68 y69 y70 y71 y72 y73 y74 y75 y76 y77 y78 y79 y80 y81 y82 y83 y84 y85 y86 y87 y88 y89 y90 y91 y92 y93 y94 y95 y96 y97 y98 y99 y100 y101 y102 y103 y104 y105 y106 y107 y108 y109 y110 y111 y112 y113 y114 y115 y116 y117 y118 y119 y120 y121 y122 y123 y124 y125 y126 y127 y128 y129 y130 y131 y132 y133 y134 y135 y136 y137 y138 y139 y140 y141 y142 y143 y144 y145 y146 y147 y148 y149 y150 y151 y152 y153 y154 y155 y156 y157 y158 y159 y160 y161 y162 y163 y164 y165 y166 y167 y168 y169 y170 y171 y172 y173 y174 y175 y176 y177 y178 y179 y180 y181 y182 y183 y184 y185 y186 y187 y188 y189 y190 y191 y192 y193 y194 y195 y196 y197 y198 y199 y200 y201 y202 y203 y204 y205 y206 y207 y208 y209 y210 y211 y212 y213 y214 y215 y216 y217 y218 y219 y220 y221 y222 y223 y224 y225 y226 y227 y228 y229 y230 y231 y232 y233 y234 y235 y236 y237 y238 y239 y240 y241 y242 y243 y244 y245 y246 : Value} (p2i : 0 ≤ P) (hP1 : P < 1048576) (HF0 : FAt w q b s_ #[z0, z1, z2, z3, z4, z5, z6, z7, z8, z9, z10, z11, z12, z13, z14, z15, z16, z17, .slice none 0 0, .slice none 0 0, .slice none 0 0] W) (HC0 : (#[z0, z1, z2, z3, z4, z5, z6, z7, z8, z9, z10, z11, z12, z13, z14, z15, z16, z17, .slice none 0 0, .slice none 0 0, .slice none 0 0] : Array Value).all (·.oneCell') = true)
    (HM0 : ∀ B : Bool, hasB P 17 = B → optB B s_ = none → refR l = none)
    (HN0 : ∀ (B : Bool) (BS : List Bat) (sB : RS) (ba : Option Addr) (bc : Nat) (V : World), hasB P 17 = B → optB B s_ = some (BS, sB) → BatsHi (b + 1) V ba BS → FAt w q b sB #[z0, z1, z2, z3, z4, z5, z6, z7, z8, z9, z10, z11, z12, z13, z14, z15, z16, z17, .slice ba BS.length bc, .slice none 0 0, .slice none 0 0] V → (∀ (B : Bool) (ES : List Ent) (sI : RS) (ea : Option Addr) (ec : Nat) (V' : World), hasB P 18 = B → optV B entR 64 65 sB = (ES, sI) → Kept b V V' → V.heap.size ≤ V'.heap.size → EntsHi (b + 1) V' ea ES → FAt w q b sI #[z0, z1, z2, z3, z4, z5, z6, z7, z8, z9, z10, z11, z12, z13, z14, z15, z16, z17, .slice ba BS.length bc, .slice ea ES.length ec, .slice none 0 0] V' → (∀ (B : Bool) (JS : List Int) (sJ : RS) (ja : Option Addr) (jc2 : Nat) (V2 : World), hasB P 19 = B → optV B numS 256 257 sI = (JS, sJ) → Kept b V' V2 → V'.heap.size ≤ V2.heap.size → IntsHi (b + 1) V2 ja JS → FAt w q b sJ #[z0, z1, z2, z3, z4, z5, z6, z7, z8, z9, z10, z11, z12, z13, z14, z15, z16, z17, .slice ba BS.length bc, .slice ea ES.length ec, .slice ja JS.length jc2] V2 → EndOk w b l sJ #[z0, z1, z2, z3, z4, z5, z6, z7, z8, z9, z10, z11, z12, z13, z14, z15, z16, z17, .slice ba BS.length bc, .slice ea ES.length ec, .slice ja JS.length jc2] V2))) :
    Code.wp Tryd.prog (tailAt 23 body30) (bodyPost Tryd.prog Tryd.f30 (fun e w' => RdPost l q w e w')) ⟨#[.pointer (some ⟨q, 0, none⟩), y1, .pointer (some ⟨w.heap.size, 0, none⟩), y3, .pointer (some ⟨b, 0, none⟩), .int .i64 P, y6, y7, y8, y9, y10, y11, y12, y13, y14, y15, y16, y17, y18, y19, y20, y21, y22, y23, y24, y25, y26, y27, y28, y29, y30, y31, y32, y33, y34, y35, y36, y37, y38, y39, y40, y41, y42, y43, y44, y45, y46, y47, y48, y49, y50, y51, y52, y53, y54, y55, y56, y57, y58, y59, y60, y61, y62, y63, y64, y65, y66, y67, y68, y69, y70, y71, y72, y73, y74, y75, y76, y77, y78, y79, y80, y81, y82, y83, y84, y85, y86, y87, y88, y89, y90, y91, y92, y93, y94, y95, y96, y97, y98, y99, y100, y101, y102, y103, y104, y105, y106, y107, y108, y109, y110, y111, y112, y113, y114, y115, y116, y117, y118, y119, y120, y121, y122, y123, y124, y125, y126, y127, y128, y129, y130, y131, y132, y133, y134, y135, y136, y137, y138, y139, y140, y141, y142, y143, y144, y145, y146, y147, y148, y149, y150, y151, y152, y153, y154, y155, y156, y157, y158, y159, y160, y161, y162, y163, y164, y165, y166, y167, y168, y169, y170, y171, y172, y173, y174, y175, y176, y177, y178, y179, y180, y181, y182, y183, y184, y185, y186, y187, y188, y189, y190, y191, y192, y193, y194, y195, y196, y197, y198, y199, y200, y201, y202, y203, y204, y205, y206, y207, y208, y209, y210, y211, y212, y213, y214, y215, y216, y217, y218, y219, y220, y221, y222, y223, y224, y225, y226, y227, y228, y229, y230, y231, y232, y233, y234, y235, y236, y237, y238, y239, y240, y241, y242, y243, y244, y245, y246], []⟩ W := by
  have HNX := hid HN0
  have HF := hid HF0
  have HM2 := hid HM0
  have HC1 := hid HC0
  clear HN0 HF0 HM0 HC0
  obtain ⟨B17, hB17⟩ : ∃ B, hasB P 17 = B := ⟨_, rfl⟩
  have hq17 : (P / 131072 % 2 == 1) = B17 := hB17
  have HB17 := hid hB17
  have HNB := hid (fun BS sB ba bc V => HNX.out B17 BS sB ba bc V hB17)
  clear HNX hB17
  obtain ⟨i0, hi0, hz0, hz1, hz2⟩ := info50
  conv => arg 2; whnf
  go_upto_if 122 with fail
  go_cut [8, 9, 10, 11, 12] from 18 (fun s8 s9 s10 s11 s12 wx => ∃ (BS : List Bat) (sB : RS) (ba : Option Addr) (bc : Nat), Hid (optB B17 s_ = some (BS, sB) ∧ FAt w q b sB #[z0, z1, z2, z3, z4, z5, z6, z7, z8, z9, z10, z11, z12, z13, z14, z15, z16, z17, (.slice ba BS.length bc), .slice none 0 0, .slice none 0 0] wx ∧ BatsHi (b + 1) wx ba BS))
  case first =>
    clear HNB
    cases B17 with
    | false =>
      have HO : Hid (optB false s_ = some ([], s_) ∧ FAt w q b s_ #[z0, z1, z2, z3, z4, z5, z6, z7, z8, z9, z10, z11, z12, z13, z14, z15, z16, z17, (.slice none ([] : List Bat).length 0), .slice none 0 0, .slice none 0 0] W ∧ BatsHi (b + 1) W none []) := ⟨rfl, HF.out, .inl rfl⟩
      go_wp2_with fail
      go_meet
      exact ⟨[], s_, none, 0, HO⟩
    | true =>
      have C := hid (rnumber_any HF.out.rd)
      have HOB : Hid (optB true s_ = runB (numS s_).1 64 65 0 [] (numS s_).2) := rfl
      have hni := numS_i64 s_
      generalize numS s_ = NN at *
      obtain ⟨n, s0⟩ := NN
      simp only at C HOB hni
      obtain ⟨hn1, hn2⟩ := hni
      go_wp2_with fail
      refine C.out.mono ?_
      rintro e w5 ⟨rfl, hr5, hg5⟩
      have F5 := hid (HF.out.call hr5 hg5)
      clear hr5 hg5 C HF
      go_wp2_with fail
      go_loopg [9] 65 (fun kx s9 wx => ∃ (k : Nat) (s : RS) (sv : Value) (xs : List (Bat × Option Addr × Nat)), k ≤ 65 ∧ 65 - k ≤ kx ∧ s9 = .int .i64 k ∧ Hid (optB true s_ = runB n 64 (65 - k) k (xs.map Prod.fst) s ∧ FAt w q b s #[z0, z1, z2, z3, z4, z5, z6, z7, z8, z9, z10, z11, z12, z13, z14, z15, z16, z17, sv, .slice none 0 0, .slice none 0 0] wx ∧ wx.ownsRow (b + 1) 50 6 sv k (flatX xs) ∧ XRecs (b + 1) wx sv xs ∧ xs.length = k))
      case atStart => exact ⟨0, s0, .slice none 0 0, [], by omega, by omega, rfl, HOB.out, F5.out, World.ownsRow_nil _ _ _ _, fun x hx => by simp at hx, rfl⟩
      case round =>
        clear F5 HOB
        obtain ⟨k, s, sv, xs, hk, hkx, rfl, HD⟩ := hrel
        have d0 := HD.out.2.1.rd.c0
        have d1 := HD.out.2.1.rd.c1
        by_cases c1 : (k : Int) < n
        case neg =>
          have hst := hid (runB_stop n 64 (65 - k) k (xs.map Prod.fst) s (by first | omega | (intro h; exact Bool.noConfusion (hw.symm.trans h.2.2))))
          obtain ⟨ba, bc, hv, hhi⟩ := bats_of_row (bs := xs.map Prod.fst) rfl (by rw [List.length_map, HD.out.2.2.2.2]; exact HD.out.2.2.1) HD.out.2.2.2.1
          have HO : Hid (optB true s_ = some (xs.map Prod.fst, s) ∧ FAt w q b s #[z0, z1, z2, z3, z4, z5, z6, z7, z8, z9, z10, z11, z12, z13, z14, z15, z16, z17, (.slice ba (xs.map Prod.fst).length bc), .slice none 0 0, .slice none 0 0] wr ∧ BatsHi (b + 1) wr ba (xs.map Prod.fst)) := ⟨HD.out.1.trans hst.out, by rw [← hv]; exact HD.out.2.1, hhi⟩
          clear hst hv hhi
          go_wp2_with fail
          go_meet
          exact ⟨xs.map Prod.fst, s, ba, bc, HO⟩

        by_cases c2 : k ≤ 64
        case neg =>
          have c2' : ¬ (k : Int) ≤ 64 := by omega
          have hst := hid (runB_stop n 64 (65 - k) k (xs.map Prod.fst) s (by first | omega | (intro h; exact Bool.noConfusion (hw.symm.trans h.2.2))))
          obtain ⟨ba, bc, hv, hhi⟩ := bats_of_row (bs := xs.map Prod.fst) rfl (by rw [List.length_map, HD.out.2.2.2.2]; exact HD.out.2.2.1) HD.out.2.2.2.1
          have HO : Hid (optB true s_ = some (xs.map Prod.fst, s) ∧ FAt w q b s #[z0, z1, z2, z3, z4, z5, z6, z7, z8, z9, z10, z11, z12, z13, z14, z15, z16, z17, (.slice ba (xs.map Prod.fst).length bc), .slice none 0 0, .slice none 0 0] wr ∧ BatsHi (b + 1) wr ba (xs.map Prod.fst)) := ⟨HD.out.1.trans hst.out, by rw [← hv]; exact HD.out.2.1, hhi⟩
          clear hst hv hhi
          go_wp2_with fail
          go_meet
          exact ⟨xs.map Prod.fst, s, ba, bc, HO⟩

        have c2' : (k : Int) ≤ 64 := by omega
        cases hw : s.wrong with
        | true =>
          rw [hw] at d1
          have hst := hid (runB_stop n 64 (65 - k) k (xs.map Prod.fst) s (by first | omega | (intro h; exact Bool.noConfusion (hw.symm.trans h.2.2))))
          obtain ⟨ba, bc, hv, hhi⟩ := bats_of_row (bs := xs.map Prod.fst) rfl (by rw [List.length_map, HD.out.2.2.2.2]; exact HD.out.2.2.1) HD.out.2.2.2.1
          have HO : Hid (optB true s_ = some (xs.map Prod.fst, s) ∧ FAt w q b s #[z0, z1, z2, z3, z4, z5, z6, z7, z8, z9, z10, z11, z12, z13, z14, z15, z16, z17, (.slice ba (xs.map Prod.fst).length bc), .slice none 0 0, .slice none 0 0] wr ∧ BatsHi (b + 1) wr ba (xs.map Prod.fst)) := ⟨HD.out.1.trans hst.out, by rw [← hv]; exact HD.out.2.1, hhi⟩
          clear hst hv hhi
          go_wp2_with fail
          go_meet
          exact ⟨xs.map Prod.fst, s, ba, bc, HO⟩

        | false =>
          rw [hw] at d1
          obtain ⟨sa, sn, sc, hsv⟩ := own_slice HD.out.2.2.1
          subst hsv
          have hl1 := HD.out.2.1.rd.len
          have HB := hid (rreadBatch_any (w := wr) s.rest hl1)
          have HGO := hid (runB_go n k (xs.map Prod.fst) s c1 c2 hw)
          have HBD := hid (readBatchL_bound s.rest)
          generalize readBatchL s.rest = RB at *
          obtain ⟨X, kk, E⟩ := RB
          simp only at HB HGO HBD
          go_wp2_with fail
          refine HB.out.mono ?_
          rintro e w6 ⟨rv, rfl, hrec, hb6, hown⟩
          obtain ⟨ra, rc, hrv, _⟩ := hrec.shape
          subst hrv
          have F6 := hid (HD.out.2.1.under hb6)
          have F7 := hid (F6.out.alloc (.cells #[.int .i64 X.base, .int .i64 X.epoch, .int .i64 X.pid, .int .i64 X.pidEpoch, .int .i64 X.seq, .slice ra X.recs.length rc] 50))
          have G7 := hid (heap_alloc_new w6 (.cells #[.int .i64 X.base, .int .i64 X.epoch, .int .i64 X.pid, .int .i64 X.pidEpoch, .int .i64 X.seq, .slice ra X.recs.length rc] 50))
          have REC := hid (And.intro hrec (And.intro hb6 hown))
          clear hrec hb6 hown d0 d1 HB F6
          by_cases hE : E = 0
          case neg =>
            have hE' : (E != 0) = true := by simpa using hE
            have HFN : Hid (refR l = none) := HM2.out true HB17.out (by rw [HD.out.1, HGO.out, if_neg hE])
            have BX := hid F7.out.box
            have HO := hid F7.out.out
            have HR2 : Hid (((w6.alloc (.cells #[.int .i64 X.base, .int .i64 X.epoch, .int .i64 X.pid, .int .i64 X.pidEpoch, .int .i64 X.seq, .slice ra X.recs.length rc] 50)).setRow w.heap.size #[z0, z1, z2, z3, z4, z5, z6, z7, z8, z9, z10, z11, z12, z13, z14, z15, z16, z17, .slice sa sn sc, .slice none 0 0, .slice none 0 0]).heap[w.heap.size]? = some (.cells #[z0, z1, z2, z3, z4, z5, z6, z7, z8, z9, z10, z11, z12, z13, z14, z15, z16, z17, .slice sa sn sc, .slice none 0 0, .slice none 0 0] 27)) := setRow_heap _ _ _ _ 27 (0, 0) F7.out.out
            have HG := hid (grown_out F7.out.grown #[z0, z1, z2, z3, z4, z5, z6, z7, z8, z9, z10, z11, z12, z13, z14, z15, z16, z17, .slice sa sn sc, .slice none 0 0, .slice none 0 0])
            have hall : (#[z0, z1, z2, z3, z4, z5, z6, z7, z8, z9, z10, z11, z12, z13, z14, z15, z16, z17, .slice sa sn sc, .slice none 0 0, .slice none 0 0] : Array Value).all (·.oneCell') = true := by have h := HC1.out; simp [Value.oneCell'] at h ⊢; exact h
            clear hE HGO HBD
            go_wp2_with (first | (refine wpList_load_row rfl 27 _ rfl b rfl 27 _ (0, 0) _ BX.out Tryd.underlying27 rfl size27 ?_) | (refine wpList_store_row rfl 27 _ _ rfl w.heap.size #[z0, z1, z2, z3, z4, z5, z6, z7, z8, z9, z10, z11, z12, z13, z14, z15, z16, z17, .slice sa sn sc, .slice none 0 0, .slice none 0 0] rfl rfl 27 _ HO.out size27 rfl hall ?_) | fail)
            refine bodyPost_ret (v := .tuple #[.agg #[z0, z1, z2, z3, z4, z5, z6, z7, z8, z9, z10, z11, z12, z13, z14, z15, z16, z17, .slice sa sn sc, .slice none 0 0, .slice none 0 0], .bool false]) (by exact results_cell_slot Tryd.results30 _ _ w.heap.size _ rfl HR2.out rfl rfl) rfl ⟨_, false, rfl, rfl, hall, HG.out, fun _ => HFN.out, fun h => by cases h⟩
          subst hE
          have hkk := HBD.out rfl
          have hkk' : (kk : Int) ≤ ((strOf s.rest).size : Int) := by rw [strOf_size]; omega
          have hx := extract_drop s.rest kk
          have hsz := strOf_size s.rest
          have e0 := F7.out.rd.c0
          have ef := F7.out.rd.f 0
          have F8 := hid (F7.out.rest (s.rest.drop kk) (by simp; omega))
          have hqb : q < b := by have := F7.out.low; have := F7.out.mid; omega
          have hq6 : q < w6.heap.size := by have := REC.out.2.1.size; have := HD.out.2.1.lt; omega
          have G8 : Hid (((w6.alloc (.cells #[.int .i64 X.base, .int .i64 X.epoch, .int .i64 X.pid, .int .i64 X.pidEpoch, .int .i64 X.seq, .slice ra X.recs.length rc] 50)).setCell ⟨q, 0, none⟩ (.string (strOf (s.rest.drop kk)))).heap[w6.heap.size]? = some (.cells #[.int .i64 X.base, .int .i64 X.epoch, .int .i64 X.pid, .int .i64 X.pidEpoch, .int .i64 X.seq, .slice ra X.recs.length rc] 50)) := (Below.heap_setCell (w6.alloc (.cells #[.int .i64 X.base, .int .i64 X.epoch, .int .i64 X.pid, .int .i64 X.pidEpoch, .int .i64 X.seq, .slice ra X.recs.length rc] 50)) ⟨q, 0, none⟩ _ w6.heap.size (by show _ ≠ q; omega)).trans G7.out
          have c18 := cell_blk F8.out.box 18 (.slice sa sn sc) rfl
          have g0 := cell_blk G8.out 0 _ rfl
          have g1 := cell_blk G8.out 1 _ rfl
          have g2 := cell_blk G8.out 2 _ rfl
          have g3 := cell_blk G8.out 3 _ rfl
          have g4 := cell_blk G8.out 4 _ rfl
          have g5 := cell_blk G8.out 5 _ rfl
          have hz9 : ((w6.alloc (.cells #[.int .i64 X.base, .int .i64 X.epoch, .int .i64 X.pid, .int .i64 X.pidEpoch, .int .i64 X.seq, .slice ra X.recs.length rc] 50)).setCell ⟨q, 0, none⟩ (.string (strOf (s.rest.drop kk)))).heap.size = w6.heap.size + 1 := by rw [set_size]; simp
          have F9 := hid (F8.out.alloc (.cells #[.int .i64 X.base, .int .i64 X.epoch, .int .i64 X.pid, .int .i64 X.pidEpoch, .int .i64 X.seq, .slice ra X.recs.length rc] 50))
          have OW9 : Hid ((((w6.alloc (.cells #[.int .i64 X.base, .int .i64 X.epoch, .int .i64 X.pid, .int .i64 X.pidEpoch, .int .i64 X.seq, .slice ra X.recs.length rc] 50)).setCell ⟨q, 0, none⟩ (.string (strOf (s.rest.drop kk)))).alloc (.cells #[.int .i64 X.base, .int .i64 X.epoch, .int .i64 X.pid, .int .i64 X.pidEpoch, .int .i64 X.seq, .slice ra X.recs.length rc] 50)).ownsRow (b + 1) 50 6 (.slice sa sn sc) k (flatX xs)) := ownsRow_kept HD.out.2.2.1 (fun j hj => by
            obtain ⟨j1, j2⟩ := World.ownsRow.lt HD.out.2.2.1 j hj
            have := REC.out.2.1.size
            rw [Below.heap_alloc _ _ _ (by rw [hz9]; omega), Below.heap_setCell _ ⟨q, 0, none⟩ _ j (by show _ ≠ q; omega), Below.heap_alloc _ _ _ (by omega)]
            exact REC.out.2.1.block j j2)
          have hsrow : ∀ j, (Value.slice sa sn sc).ownBlock = some j → b < j := fun j hj => by have := (World.ownsRow.lt HD.out.2.2.1 j hj).1; omega
          have HSR := hid hsrow
          clear hsrow hq6 hqb
          have hqne : ¬ q = w6.heap.size := by have := F7.out.low; have := REC.out.2.1.size; have := HD.out.2.1.grown.size; omega
          go_wp2_with (first | (at_builtin; (refine wpList_append_own_at _ rfl _ _ 23 rfl (b + 1) 50 i0 _ 6 64 Tryd.underlying23 hi0 hz0 hz1 hz2 rfl (by decide) _ k (flatX xs) rfl OW9.out ⟨w6.heap.size + 1, 0, none⟩ 1 1 (batC (X, ra, rc)) rfl rfl (bat_news (X, ra, rc) hz9.symm) (by simp [Value.oneCell', batC]) (by unfold maxLen; omega) (by omega) (by have := F9.out.lt; omega) ?_; intro v' w10 hown10 hg10 _ hat; obtain ⟨va, vn, vc, hv'⟩ := own_slice hown10; subst hv'; have F10 := hid (F9.out.grow hg10 HSR.out); have c18b := cell_blk F10.out.box 18 (.slice sa sn sc) rfl; have f18 := frozen_blk F10.out.box 18)) | fail)
          have F11 : Hid (FAt w q b ⟨s.rest.drop kk, s.wrong⟩ #[z0, z1, z2, z3, z4, z5, z6, z7, z8, z9, z10, z11, z12, z13, z14, z15, z16, z17, .slice va vn vc, .slice none 0 0, .slice none 0 0] (w10.setCell ⟨b, 18, none⟩ (.slice va vn vc))) := F10.out.set 18 _
          have HN1 : Hid (optB true s_ = runB n 64 (65 - (k + 1)) (k + 1) ((xs ++ [(X, ra, rc)]).map Prod.fst) ⟨s.rest.drop kk, s.wrong⟩) := by
            show _ = _
            rw [HD.out.1, HGO.out]
            simp
          have hz10 := hg10.size
          have hzW : (((w6.alloc (.cells #[.int .i64 X.base, .int .i64 X.epoch, .int .i64 X.pid, .int .i64 X.pidEpoch, .int .i64 X.seq, .slice ra X.recs.length rc] 50)).setCell ⟨q, 0, none⟩ (.string (strOf (s.rest.drop kk)))).alloc (.cells #[.int .i64 X.base, .int .i64 X.epoch, .int .i64 X.pid, .int .i64 X.pidEpoch, .int .i64 X.seq, .slice ra X.recs.length rc] 50)).heap.size = w6.heap.size + 2 := by rw [show (((w6.alloc (.cells #[.int .i64 X.base, .int .i64 X.epoch, .int .i64 X.pid, .int .i64 X.pidEpoch, .int .i64 X.seq, .slice ra X.recs.length rc] 50)).setCell ⟨q, 0, none⟩ (.string (strOf (s.rest.drop kk)))).alloc (.cells #[.int .i64 X.base, .int .i64 X.epoch, .int .i64 X.pid, .int .i64 X.pidEpoch, .int .i64 X.seq, .slice ra X.recs.length rc] 50)).heap.size = ((w6.alloc (.cells #[.int .i64 X.base, .int .i64 X.epoch, .int .i64 X.pid, .int .i64 X.pidEpoch, .int .i64 X.seq, .slice ra X.recs.length rc] 50)).setCell ⟨q, 0, none⟩ (.string (strOf (s.rest.drop kk)))).heap.size + 1 by simp, hz9]
          have hk10 : ∀ j, b < j → j < w6.heap.size → (Value.slice sa sn sc).ownBlock ≠ some j → (w10.setCell ⟨b, 18, none⟩ (.slice va vn vc)).heap[j]? = w6.heap[j]? ∧ (Value.slice va vn vc).ownBlock ≠ some j := fun j hbj hj hne => by
            have hqb : q < b := by have := HD.out.2.1.low; have := HD.out.2.1.mid; omega
            refine ⟨?_, ?_⟩
            · rw [Below.heap_setCell _ ⟨b, 18, none⟩ _ j (by show _ ≠ b; omega), hg10.block j (by rw [hzW]; omega) (fun e => hne e.symm), Below.heap_alloc _ _ _ (by rw [hz9]; omega), Below.heap_setCell _ ⟨q, 0, none⟩ _ j (by show _ ≠ q; omega), Below.heap_alloc _ _ _ hj]
            · rcases hat with e | e
              · rw [e]; exact hne
              · rw [e, hzW]; intro e2; cases e2; omega
          have HOW : Hid ((w10.setCell ⟨b, 18, none⟩ (.slice va vn vc)).ownsRow (b + 1) 50 6 (.slice va vn vc) (k + 1) (flatX (xs ++ [(X, ra, rc)]))) := by
            have h1 := ownsRow_kept hown10 (w' := w10.setCell ⟨b, 18, none⟩ (.slice va vn vc)) (fun j hj => Below.heap_setCell _ ⟨b, 18, none⟩ _ j (by show _ ≠ b; have := (World.ownsRow.lt hown10 j hj).1; omega))
            have e : flatX (xs ++ [(X, ra, rc)]) = flatX xs ++ batC (X, ra, rc) := by rw [flatX_append]; simp only [flatX, List.append_nil]
            rw [e]
            exact h1
          have HXR : Hid (XRecs (b + 1) (w10.setCell ⟨b, 18, none⟩ (.slice va vn vc)) (.slice va vn vc) (xs ++ [(X, ra, rc)])) := fun x hx => by
            have hs6 := REC.out.2.1.size
            have hs10 : w6.heap.size ≤ (w10.setCell ⟨b, 18, none⟩ (.slice va vn vc)).heap.size := by rw [set_size]; omega
            rcases List.mem_append.1 hx with hx | hx
            · obtain ⟨r1, r2⟩ := HD.out.2.2.2.1 x hx
              have hkx2 : x.1.recs ≠ [] → ∀ j, (Value.slice x.2.1 x.1.recs.length x.2.2).ownBlock = some j → (w10.setCell ⟨b, 18, none⟩ (.slice va vn vc)).heap[j]? = wr.heap[j]? ∧ (Value.slice va vn vc).ownBlock ≠ some j := fun hn j hj => by
                have hjl := r1.lt hn hj
                obtain ⟨b1, b2⟩ := r2 hn j hj
                obtain ⟨c1', c2''⟩ := hk10 j (by omega) (by omega) b2
                exact ⟨c1'.trans (REC.out.2.1.block j hjl), c2''⟩
              exact ⟨r1.off2 (fun hn j hj => (hkx2 hn j hj).1) (by omega), fun hn j hj => ⟨(r2 hn j hj).1, (hkx2 hn j hj).2⟩⟩
            · have hx' : x = (X, ra, rc) := by simpa using hx
              subst hx'
              have hbw := HD.out.2.1.lt
              have hkx2 : X.recs ≠ [] → ∀ j, (Value.slice ra X.recs.length rc).ownBlock = some j → (w10.setCell ⟨b, 18, none⟩ (.slice va vn vc)).heap[j]? = w6.heap[j]? ∧ (Value.slice va vn vc).ownBlock ≠ some j := fun hn j hj => by
                have hjl := REC.out.1.lt hn hj
                have hjh := REC.out.2.2 j hj
                exact hk10 j (by omega) hjl (fun e => by have := (World.ownsRow.lt HD.out.2.2.1 j e).2; omega)
              exact ⟨REC.out.1.off2 (fun hn j hj => (hkx2 hn j hj).1) hs10, fun hn j hj => ⟨by have := REC.out.2.2 j hj; omega, (hkx2 hn j hj).2⟩⟩
          clear hk10 hown10 hg10 hat hz10 hzW F10 c18b f18
          go_roundg (65 - (k + 1))
          case measure => omega
          case rel => exact ⟨k + 1, ⟨s.rest.drop kk, s.wrong⟩, .slice va vn vc, xs ++ [(X, ra, rc)], by omega, Nat.le_refl _, by go_num, HN1.out, F11.out, HOW.out, HXR.out, by simp [HD.out.2.2.2.2]⟩
  case rest =>
    rename_i Q1 K1 hK1
    obtain ⟨BS, sB, ba, bc, hcut⟩ := hcut
    refine hK1 _ _ ?_
    exact rd_ents p2i hP1 hcut.out.2.1 (HNB.out BS sB ba bc _ hcut.out.1 hcut.out.2.2 hcut.out.2.1)
end Go.Proofs.YtocdlaoklagdoaaDoor
