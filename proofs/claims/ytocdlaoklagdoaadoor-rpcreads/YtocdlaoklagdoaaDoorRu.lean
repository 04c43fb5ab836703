/- The document's read: its numbers are laid, name and text are read, and what follows. -/
import Derived.Test.YtocdlaoklagdoaaDoorRv
namespace Go.Proofs.YtocdlaoklagdoaaDoor
open Go.RowKit Go.Maps
set_option linter.unusedSimpArgs false
set_option linter.unusedVariables false
set_option maxRecDepth 100000

theorem end_ok {w V V' V2 : World} {b : Nat} {l N T : List UInt8} {K x0 x1 x2 x3 x4 x5 x6 x7 x8 x9 x10 x11 x12 x13 x14 : Int} {BS : List Bat} {ES : List Ent} {JS : List Int} {sJ : RS} {ba ea ja : Option Addr} {bc ec jc : Nat} (hm : refR l = lastR K [x0, x1, x2, x3, x4, x5, x6, x7, x8, x9, x10, x11, x12, x13, x14] N T BS ES (JS, sJ)) (h1 : BatsHi (b + 1) V ba BS) (k1 : Kept b V V') (s1 : V.heap.size ≤ V'.heap.size) (h2 : EntsHi (b + 1) V' ea ES) (k2 : Kept b V' V2) (s2 : V'.heap.size ≤ V2.heap.size) (h3 : IntsHi (b + 1) V2 ja JS) :
    EndOk w b l sJ #[.int .i64 K, .int .i64 x0, .int .i64 x1, .int .i64 x2, .int .i64 x3, .int .i64 x4, .int .i64 x5, .int .i64 x6, .int .i64 x7, .int .i64 x8, .int .i64 x9, .int .i64 x10, .int .i64 x11, .int .i64 x12, .int .i64 x13, .int .i64 x14, .string (strOf N), .string (strOf T), .slice ba BS.length bc, .slice ea ES.length ec, .slice ja JS.length jc] V2 := by
  refine ⟨by simp [Value.oneCell'], fun h => ?_, fun h4 h5 => ?_⟩
  · rw [hm]
    unfold lastR
    rw [if_neg h]
  · refine ⟨msgOf K [x0, x1, x2, x3, x4, x5, x6, x7, x8, x9, x10, x11, x12, x13, x14] x14 N T BS ES JS, ba, bc, ea, ec, ja, jc, ?_, rfl, ⟨(h1.keep (fun j hj hl => k1 j (by omega) hl) s1).keep (fun j hj hl => k2 j (by omega) hl) s2, h2.keep (fun j hj hl => k2 j (by omega) hl) s2, h3⟩⟩
    rw [hm]
    unfold lastR
    rw [if_pos ⟨h4, h5⟩]
    rfl
set_option maxHeartbeats 6400000 in
theorem rd_copy {w W : World} {q b c : Nat} {l N T : List UInt8} {sL sN sT : RS} {P K x0 x1 x2 x3 x4 x5 x6 x7 x8 x9 x10 x11 x12 x13 x14 : Int} {y1 y3 y7 y8 y9 y10 y11 y12 y13 y14 y15 y16 y17 y18 y19 y20 y21 y22 y23 y24 y25 y26 y27 y28 y29 y30 y31 y32 y33 y34 y35 y36 y37 y38 y39 y40 y41 y42 y43 y44 y45 y46 y47 y48 y49 y50 y51 y52 y53 y54 y55 y56 y57 y58 y59 y60 y61 y62 y63 y64 y65 y66 y67 y68 y69 y70 y71 y72 y73 y74 y75 y76 y77 y78 y79 y80 y81 y82 y83 y84 y85 y86 y87 y88 y89 y90 y91 y92 y93 y94 y95 y96 y97 y98 y99 y100 y101 y102 y103 y104 y105 y106 y107 y108 y109 y110 y111 y112 y113 y114 y115 y116 y117 y118 y119 y120 y121 y122 y123 y124 y125 y126 y127 y128 y129 y130 y131 y132 y133 y134 y135 y136 y137 y138 y139 y140 y141 y142 y143 y144 y145 y146 y147 y148 y149 y150 y151 y152 y153 y154 y155 y156 y157 y158 y159 y160 y161 y162 y163 y164 y165 y166 y167 y168 y169 y170 y171 y172 y173 y174 y175 y176 y177 y178 y179 y180 y181 y182 y183 y184 y185 y186 y187 y188 y189 y190 y191 y192 y193 y194 y195 y196 y197 y198 y199 y200 y201 y202 y203 y204 y205 y206 y207 y208 y209 y210 y211 y212 y213 y214 y215 y216 y217 y218 y219 y220 y221 y222 y223 y224 y225 y226 y227 y228 y229 y230 y231 y232 y233 y234 y235 y236 y237 y238 y239 y240 y241 y242 y243 y244 y245 y246 : Value} (p2i : 0 ≤ P) (hP1 : P < 1048576) (F00 : FAt w q b sL #[.int .i64 K, .int .i64 0, .int .i64 0, .int .i64 0, .int .i64 0, .int .i64 0, .int .i64 0, .int .i64 0, .int .i64 0, .int .i64 0, .int .i64 0, .int .i64 0, .int .i64 0, .int .i64 0, .int .i64 0, .int .i64 0, .string ⟨#[]⟩, .string ⟨#[]⟩, .slice none 0 0, .slice none 0 0, .slice none 0 0] W) (R00 : Row15 W c [x0, x1, x2, x3, x4, x5, x6, x7, x8, x9, x10, x11, x12, x13, x14]) (hc20 : b < c) (HN00 : optR (hasB P 15) sL = (N, sN)) (HT00 : optR (hasB P 16) sN = (T, sT))
    (HM00 : refR l = endR P K [x0, x1, x2, x3, x4, x5, x6, x7, x8, x9, x10, x11, x12, x13, x14] N T (optB (hasB P 17) sT)) :
    Code.wp Tryd.prog (tailAt 6 body30) (bodyPost Tryd.prog Tryd.f30 (fun e w' => RdPost l q w e w')) ⟨#[.pointer (some ⟨q, 0, none⟩), y1, .pointer (some ⟨w.heap.size, 0, none⟩), y3, .pointer (some ⟨b, 0, none⟩), .int .i64 P, .slice (some ⟨c, 0, none⟩) 15 15, y7, y8, y9, y10, y11, y12, y13, y14, y15, y16, y17, y18, y19, y20, y21, y22, y23, y24, y25, y26, y27, y28, y29, y30, y31, y32, y33, y34, y35, y36, y37, y38, y39, y40, y41, y42, y43, y44, y45, y46, y47, y48, y49, y50, y51, y52, y53, y54, y55, y56, y57, y58, y59, y60, y61, y62, y63, y64, y65, y66, y67, y68, y69, y70, y71, y72, y73, y74, y75, y76, y77, y78, y79, y80, y81, y82, y83, y84, y85, y86, y87, y88, y89, y90, y91, y92, y93, y94, y95, y96, y97, y98, y99, y100, y101, y102, y103, y104, y105, y106, y107, y108, y109, y110, y111, y112, y113, y114, y115, y116, y117, y118, y119, y120, y121, y122, y123, y124, y125, y126, y127, y128, y129, y130, y131, y132, y133, y134, y135, y136, y137, y138, y139, y140, y141, y142, y143, y144, y145, y146, y147, y148, y149, y150, y151, y152, y153, y154, y155, y156, y157, y158, y159, y160, y161, y162, y163, y164, y165, y166, y167, y168, y169, y170, y171, y172, y173, y174, y175, y176, y177, y178, y179, y180, y181, y182, y183, y184, y185, y186, y187, y188, y189, y190, y191, y192, y193, y194, y195, y196, y197, y198, y199, y200, y201, y202, y203, y204, y205, y206, y207, y208, y209, y210, y211, y212, y213, y214, y215, y216, y217, y218, y219, y220, y221, y222, y223, y224, y225, y226, y227, y228, y229, y230, y231, y232, y233, y234, y235, y236, y237, y238, y239, y240, y241, y242, y243, y244, y245, y246], []⟩ W := by
  have F0 := hid F00
  have R0 := hid R00
  have hc2 := hid hc20
  have HNs := hid HN00
  have HTs := hid HT00
  have HM2 := hid HM00
  clear F00 R00 hc20 HN00 HT00 HM00
  have rc0 : W.cell? ⟨c, 0, none⟩ = some (.int .i64 x0) := R0.out.cell 0 (by omega)
  have bc0 := cell_blk F0.out.box 1 (.int .i64 0) rfl
  have bf0 := frozen_blk F0.out.box 1
  conv => arg 2; whnf
  go_upto_region 12 with fail
  have F1 : Hid (FAt w q b sL #[.int .i64 K, .int .i64 x0, .int .i64 0, .int .i64 0, .int .i64 0, .int .i64 0, .int .i64 0, .int .i64 0, .int .i64 0, .int .i64 0, .int .i64 0, .int .i64 0, .int .i64 0, .int .i64 0, .int .i64 0, .int .i64 0, .string ⟨#[]⟩, .string ⟨#[]⟩, .slice none 0 0, .slice none 0 0, .slice none 0 0] (W.setCell ⟨b, 1, none⟩ (.int .i64 x0))) := F0.out.set 1 _
  have R1 := hid (R0.out.kept (Below.heap_setCell W ⟨b, 1, none⟩ (.int .i64 x0) c (by show _ ≠ b; have := hc2.out; omega)))
  clear rc0 bc0 bf0 F0 R0
  generalize W.setCell ⟨b, 1, none⟩ (.int .i64 x0) = W1 at *
  have rc1 : W1.cell? ⟨c, 1, none⟩ = some (.int .i64 x1) := R1.out.cell 1 (by omega)
  have bc1 := cell_blk F1.out.box 2 (.int .i64 0) rfl
  have bf1 := frozen_blk F1.out.box 2
  go_upto_region 13 with fail
  have F2 : Hid (FAt w q b sL #[.int .i64 K, .int .i64 x0, .int .i64 x1, .int .i64 0, .int .i64 0, .int .i64 0, .int .i64 0, .int .i64 0, .int .i64 0, .int .i64 0, .int .i64 0, .int .i64 0, .int .i64 0, .int .i64 0, .int .i64 0, .int .i64 0, .string ⟨#[]⟩, .string ⟨#[]⟩, .slice none 0 0, .slice none 0 0, .slice none 0 0] (W1.setCell ⟨b, 2, none⟩ (.int .i64 x1))) := F1.out.set 2 _
  have R2 := hid (R1.out.kept (Below.heap_setCell W1 ⟨b, 2, none⟩ (.int .i64 x1) c (by show _ ≠ b; have := hc2.out; omega)))
  clear rc1 bc1 bf1 F1 R1
  generalize W1.setCell ⟨b, 2, none⟩ (.int .i64 x1) = W2 at *
  have rc2 : W2.cell? ⟨c, 2, none⟩ = some (.int .i64 x2) := R2.out.cell 2 (by omega)
  have bc2 := cell_blk F2.out.box 3 (.int .i64 0) rfl
  have bf2 := frozen_blk F2.out.box 3
  go_upto_region 14 with fail
  have F3 : Hid (FAt w q b sL #[.int .i64 K, .int .i64 x0, .int .i64 x1, .int .i64 x2, .int .i64 0, .int .i64 0, .int .i64 0, .int .i64 0, .int .i64 0, .int .i64 0, .int .i64 0, .int .i64 0, .int .i64 0, .int .i64 0, .int .i64 0, .int .i64 0, .string ⟨#[]⟩, .string ⟨#[]⟩, .slice none 0 0, .slice none 0 0, .slice none 0 0] (W2.setCell ⟨b, 3, none⟩ (.int .i64 x2))) := F2.out.set 3 _
  have R3 := hid (R2.out.kept (Below.heap_setCell W2 ⟨b, 3, none⟩ (.int .i64 x2) c (by show _ ≠ b; have := hc2.out; omega)))
  clear rc2 bc2 bf2 F2 R2
  generalize W2.setCell ⟨b, 3, none⟩ (.int .i64 x2) = W3 at *
  have rc3 : W3.cell? ⟨c, 3, none⟩ = some (.int .i64 x3) := R3.out.cell 3 (by omega)
  have bc3 := cell_blk F3.out.box 4 (.int .i64 0) rfl
  have bf3 := frozen_blk F3.out.box 4
  go_upto_region 15 with fail
  have F4 : Hid (FAt w q b sL #[.int .i64 K, .int .i64 x0, .int .i64 x1, .int .i64 x2, .int .i64 x3, .int .i64 0, .int .i64 0, .int .i64 0, .int .i64 0, .int .i64 0, .int .i64 0, .int .i64 0, .int .i64 0, .int .i64 0, .int .i64 0, .int .i64 0, .string ⟨#[]⟩, .string ⟨#[]⟩, .slice none 0 0, .slice none 0 0, .slice none 0 0] (W3.setCell ⟨b, 4, none⟩ (.int .i64 x3))) := F3.out.set 4 _
  have R4 := hid (R3.out.kept (Below.heap_setCell W3 ⟨b, 4, none⟩ (.int .i64 x3) c (by show _ ≠ b; have := hc2.out; omega)))
  clear rc3 bc3 bf3 F3 R3
  generalize W3.setCell ⟨b, 4, none⟩ (.int .i64 x3) = W4 at *
  have rc4 : W4.cell? ⟨c, 4, none⟩ = some (.int .i64 x4) := R4.out.cell 4 (by omega)
  have bc4 := cell_blk F4.out.box 5 (.int .i64 0) rfl
  have bf4 := frozen_blk F4.out.box 5
  go_upto_region 16 with fail
  have F5 : Hid (FAt w q b sL #[.int .i64 K, .int .i64 x0, .int .i64 x1, .int .i64 x2, .int .i64 x3, .int .i64 x4, .int .i64 0, .int .i64 0, .int .i64 0, .int .i64 0, .int .i64 0, .int .i64 0, .int .i64 0, .int .i64 0, .int .i64 0, .int .i64 0, .string ⟨#[]⟩, .string ⟨#[]⟩, .slice none 0 0, .slice none 0 0, .slice none 0 0] (W4.setCell ⟨b, 5, none⟩ (.int .i64 x4))) := F4.out.set 5 _
  have R5 := hid (R4.out.kept (Below.heap_setCell W4 ⟨b, 5, none⟩ (.int .i64 x4) c (by show _ ≠ b; have := hc2.out; omega)))
  clear rc4 bc4 bf4 F4 R4
  generalize W4.setCell ⟨b, 5, none⟩ (.int .i64 x4) = W5 at *
  have rc5 : W5.cell? ⟨c, 5, none⟩ = some (.int .i64 x5) := R5.out.cell 5 (by omega)
  have bc5 := cell_blk F5.out.box 6 (.int .i64 0) rfl
  have bf5 := frozen_blk F5.out.box 6
  go_upto_region 17 with fail
  have F6 : Hid (FAt w q b sL #[.int .i64 K, .int .i64 x0, .int .i64 x1, .int .i64 x2, .int .i64 x3, .int .i64 x4, .int .i64 x5, .int .i64 0, .int .i64 0, .int .i64 0, .int .i64 0, .int .i64 0, .int .i64 0, .int .i64 0, .int .i64 0, .int .i64 0, .string ⟨#[]⟩, .string ⟨#[]⟩, .slice none 0 0, .slice none 0 0, .slice none 0 0] (W5.setCell ⟨b, 6, none⟩ (.int .i64 x5))) := F5.out.set 6 _
  have R6 := hid (R5.out.kept (Below.heap_setCell W5 ⟨b, 6, none⟩ (.int .i64 x5) c (by show _ ≠ b; have := hc2.out; omega)))
  clear rc5 bc5 bf5 F5 R5
  generalize W5.setCell ⟨b, 6, none⟩ (.int .i64 x5) = W6 at *
  have rc6 : W6.cell? ⟨c, 6, none⟩ = some (.int .i64 x6) := R6.out.cell 6 (by omega)
  have bc6 := cell_blk F6.out.box 7 (.int .i64 0) rfl
  have bf6 := frozen_blk F6.out.box 7
  go_upto_region 18 with fail
  have F7 : Hid (FAt w q b sL #[.int .i64 K, .int .i64 x0, .int .i64 x1, .int .i64 x2, .int .i64 x3, .int .i64 x4, .int .i64 x5, .int .i64 x6, .int .i64 0, .int .i64 0, .int .i64 0, .int .i64 0, .int .i64 0, .int .i64 0, .int .i64 0, .int .i64 0, .string ⟨#[]⟩, .string ⟨#[]⟩, .slice none 0 0, .slice none 0 0, .slice none 0 0] (W6.setCell ⟨b, 7, none⟩ (.int .i64 x6))) := F6.out.set 7 _
  have R7 := hid (R6.out.kept (Below.heap_setCell W6 ⟨b, 7, none⟩ (.int .i64 x6) c (by show _ ≠ b; have := hc2.out; omega)))
  clear rc6 bc6 bf6 F6 R6
  generalize W6.setCell ⟨b, 7, none⟩ (.int .i64 x6) = W7 at *
  have rc7 : W7.cell? ⟨c, 7, none⟩ = some (.int .i64 x7) := R7.out.cell 7 (by omega)
  have bc7 := cell_blk F7.out.box 8 (.int .i64 0) rfl
  have bf7 := frozen_blk F7.out.box 8
  go_upto_region 19 with fail
  have F8 : Hid (FAt w q b sL #[.int .i64 K, .int .i64 x0, .int .i64 x1, .int .i64 x2, .int .i64 x3, .int .i64 x4, .int .i64 x5, .int .i64 x6, .int .i64 x7, .int .i64 0, .int .i64 0, .int .i64 0, .int .i64 0, .int .i64 0, .int .i64 0, .int .i64 0, .string ⟨#[]⟩, .string ⟨#[]⟩, .slice none 0 0, .slice none 0 0, .slice none 0 0] (W7.setCell ⟨b, 8, none⟩ (.int .i64 x7))) := F7.out.set 8 _
  have R8 := hid (R7.out.kept (Below.heap_setCell W7 ⟨b, 8, none⟩ (.int .i64 x7) c (by show _ ≠ b; have := hc2.out; omega)))
  clear rc7 bc7 bf7 F7 R7
  generalize W7.setCell ⟨b, 8, none⟩ (.int .i64 x7) = W8 at *
  have rc8 : W8.cell? ⟨c, 8, none⟩ = some (.int .i64 x8) := R8.out.cell 8 (by omega)
  have bc8 := cell_blk F8.out.box 9 (.int .i64 0) rfl
  have bf8 := frozen_blk F8.out.box 9
  go_upto_region 20 with fail
  have F9 : Hid (FAt w q b sL #[.int .i64 K, .int .i64 x0, .int .i64 x1, .int .i64 x2, .int .i64 x3, .int .i64 x4, .int .i64 x5, .int .i64 x6, .int .i64 x7, .int .i64 x8, .int .i64 0, .int .i64 0, .int .i64 0, .int .i64 0, .int .i64 0, .int .i64 0, .string ⟨#[]⟩, .string ⟨#[]⟩, .slice none 0 0, .slice none 0 0, .slice none 0 0] (W8.setCell ⟨b, 9, none⟩ (.int .i64 x8))) := F8.out.set 9 _
  have R9 := hid (R8.out.kept (Below.heap_setCell W8 ⟨b, 9, none⟩ (.int .i64 x8) c (by show _ ≠ b; have := hc2.out; omega)))
  clear rc8 bc8 bf8 F8 R8
  generalize W8.setCell ⟨b, 9, none⟩ (.int .i64 x8) = W9 at *
  have rc9 : W9.cell? ⟨c, 9, none⟩ = some (.int .i64 x9) := R9.out.cell 9 (by omega)
  have bc9 := cell_blk F9.out.box 10 (.int .i64 0) rfl
  have bf9 := frozen_blk F9.out.box 10
  go_upto_region 21 with fail
  have F10 : Hid (FAt w q b sL #[.int .i64 K, .int .i64 x0, .int .i64 x1, .int .i64 x2, .int .i64 x3, .int .i64 x4, .int .i64 x5, .int .i64 x6, .int .i64 x7, .int .i64 x8, .int .i64 x9, .int .i64 0, .int .i64 0, .int .i64 0, .int .i64 0, .int .i64 0, .string ⟨#[]⟩, .string ⟨#[]⟩, .slice none 0 0, .slice none 0 0, .slice none 0 0] (W9.setCell ⟨b, 10, none⟩ (.int .i64 x9))) := F9.out.set 10 _
  have R10 := hid (R9.out.kept (Below.heap_setCell W9 ⟨b, 10, none⟩ (.int .i64 x9) c (by show _ ≠ b; have := hc2.out; omega)))
  clear rc9 bc9 bf9 F9 R9
  generalize W9.setCell ⟨b, 10, none⟩ (.int .i64 x9) = W10 at *
  have rc10 : W10.cell? ⟨c, 10, none⟩ = some (.int .i64 x10) := R10.out.cell 10 (by omega)
  have bc10 := cell_blk F10.out.box 11 (.int .i64 0) rfl
  have bf10 := frozen_blk F10.out.box 11
  go_upto_region 22 with fail
  have F11 : Hid (FAt w q b sL #[.int .i64 K, .int .i64 x0, .int .i64 x1, .int .i64 x2, .int .i64 x3, .int .i64 x4, .int .i64 x5, .int .i64 x6, .int .i64 x7, .int .i64 x8, .int .i64 x9, .int .i64 x10, .int .i64 0, .int .i64 0, .int .i64 0, .int .i64 0, .string ⟨#[]⟩, .string ⟨#[]⟩, .slice none 0 0, .slice none 0 0, .slice none 0 0] (W10.setCell ⟨b, 11, none⟩ (.int .i64 x10))) := F10.out.set 11 _
  have R11 := hid (R10.out.kept (Below.heap_setCell W10 ⟨b, 11, none⟩ (.int .i64 x10) c (by show _ ≠ b; have := hc2.out; omega)))
  clear rc10 bc10 bf10 F10 R10
  generalize W10.setCell ⟨b, 11, none⟩ (.int .i64 x10) = W11 at *
  have rc11 : W11.cell? ⟨c, 11, none⟩ = some (.int .i64 x11) := R11.out.cell 11 (by omega)
  have bc11 := cell_blk F11.out.box 12 (.int .i64 0) rfl
  have bf11 := frozen_blk F11.out.box 12
  go_upto_region 23 with fail
  have F12 : Hid (FAt w q b sL #[.int .i64 K, .int .i64 x0, .int .i64 x1, .int .i64 x2, .int .i64 x3, .int .i64 x4, .int .i64 x5, .int .i64 x6, .int .i64 x7, .int .i64 x8, .int .i64 x9, .int .i64 x10, .int .i64 x11, .int .i64 0, .int .i64 0, .int .i64 0, .string ⟨#[]⟩, .string ⟨#[]⟩, .slice none 0 0, .slice none 0 0, .slice none 0 0] (W11.setCell ⟨b, 12, none⟩ (.int .i64 x11))) := F11.out.set 12 _
  have R12 := hid (R11.out.kept (Below.heap_setCell W11 ⟨b, 12, none⟩ (.int .i64 x11) c (by show _ ≠ b; have := hc2.out; omega)))
  clear rc11 bc11 bf11 F11 R11
  generalize W11.setCell ⟨b, 12, none⟩ (.int .i64 x11) = W12 at *
  have rc12 : W12.cell? ⟨c, 12, none⟩ = some (.int .i64 x12) := R12.out.cell 12 (by omega)
  have bc12 := cell_blk F12.out.box 13 (.int .i64 0) rfl
  have bf12 := frozen_blk F12.out.box 13
  go_upto_region 24 with fail
  have F13 : Hid (FAt w q b sL #[.int .i64 K, .int .i64 x0, .int .i64 x1, .int .i64 x2, .int .i64 x3, .int .i64 x4, .int .i64 x5, .int .i64 x6, .int .i64 x7, .int .i64 x8, .int .i64 x9, .int .i64 x10, .int .i64 x11, .int .i64 x12, .int .i64 0, .int .i64 0, .string ⟨#[]⟩, .string ⟨#[]⟩, .slice none 0 0, .slice none 0 0, .slice none 0 0] (W12.setCell ⟨b, 13, none⟩ (.int .i64 x12))) := F12.out.set 13 _
  have R13 := hid (R12.out.kept (Below.heap_setCell W12 ⟨b, 13, none⟩ (.int .i64 x12) c (by show _ ≠ b; have := hc2.out; omega)))
  clear rc12 bc12 bf12 F12 R12
  generalize W12.setCell ⟨b, 13, none⟩ (.int .i64 x12) = W13 at *
  have rc13 : W13.cell? ⟨c, 13, none⟩ = some (.int .i64 x13) := R13.out.cell 13 (by omega)
  have bc13 := cell_blk F13.out.box 14 (.int .i64 0) rfl
  have bf13 := frozen_blk F13.out.box 14
  go_upto_region 25 with fail
  have F14 : Hid (FAt w q b sL #[.int .i64 K, .int .i64 x0, .int .i64 x1, .int .i64 x2, .int .i64 x3, .int .i64 x4, .int .i64 x5, .int .i64 x6, .int .i64 x7, .int .i64 x8, .int .i64 x9, .int .i64 x10, .int .i64 x11, .int .i64 x12, .int .i64 x13, .int .i64 0, .string ⟨#[]⟩, .string ⟨#[]⟩, .slice none 0 0, .slice none 0 0, .slice none 0 0] (W13.setCell ⟨b, 14, none⟩ (.int .i64 x13))) := F13.out.set 14 _
  have R14 := hid (R13.out.kept (Below.heap_setCell W13 ⟨b, 14, none⟩ (.int .i64 x13) c (by show _ ≠ b; have := hc2.out; omega)))
  clear rc13 bc13 bf13 F13 R13
  generalize W13.setCell ⟨b, 14, none⟩ (.int .i64 x13) = W14 at *
  have rc14 : W14.cell? ⟨c, 14, none⟩ = some (.int .i64 x14) := R14.out.cell 14 (by omega)
  have bc14 := cell_blk F14.out.box 15 (.int .i64 0) rfl
  have bf14 := frozen_blk F14.out.box 15
  go_upto_region 26 with fail
  have F15 : Hid (FAt w q b sL #[.int .i64 K, .int .i64 x0, .int .i64 x1, .int .i64 x2, .int .i64 x3, .int .i64 x4, .int .i64 x5, .int .i64 x6, .int .i64 x7, .int .i64 x8, .int .i64 x9, .int .i64 x10, .int .i64 x11, .int .i64 x12, .int .i64 x13, .int .i64 x14, .string ⟨#[]⟩, .string ⟨#[]⟩, .slice none 0 0, .slice none 0 0, .slice none 0 0] (W14.setCell ⟨b, 15, none⟩ (.int .i64 x14))) := F14.out.set 15 _
  have R15 := hid (R14.out.kept (Below.heap_setCell W14 ⟨b, 15, none⟩ (.int .i64 x14) c (by show _ ≠ b; have := hc2.out; omega)))
  clear rc14 bc14 bf14 F14 R14
  generalize W14.setCell ⟨b, 15, none⟩ (.int .i64 x14) = W15 at *
  clear R15 hc2
  obtain ⟨B15, hB15⟩ : ∃ B, hasB P 15 = B := ⟨_, rfl⟩
  have hq15 : (P / 32768 % 2 == 1) = B15 := hB15
  rw [hB15] at HNs
  go_upto_if 108 with fail
  go_cut [] from 18 (fun wx => Hid (FAt w q b sN #[.int .i64 K, .int .i64 x0, .int .i64 x1, .int .i64 x2, .int .i64 x3, .int .i64 x4, .int .i64 x5, .int .i64 x6, .int .i64 x7, .int .i64 x8, .int .i64 x9, .int .i64 x10, .int .i64 x11, .int .i64 x12, .int .i64 x13, .int .i64 x14, .string (strOf N), .string ⟨#[]⟩, .slice none 0 0, .slice none 0 0, .slice none 0 0] wx))
  case first =>
    cases B15 with
    | false =>
      have e := HNs.out
      simp only [optR, Bool.false_eq_true, if_false, Prod.mk.injEq] at e
      obtain ⟨e1, e2⟩ := e
      subst e1
      subst e2
      go_wp2_with fail
      go_meet
      exact F15
    | true =>
      have C := hid (rtext_any F15.out.rd 65536 (by omega) (by omega))
      have e := HNs.out
      simp only [optR, if_true] at e
      rw [e] at C
      clear e
      go_wp2_with fail
      refine C.out.mono ?_
      rintro e w7 ⟨rfl, hr7, hg7⟩
      have R7 := hid (F15.out.call hr7 hg7)
      have cc := cell_blk R7.out.box 16 (.string ⟨#[]⟩) rfl
      have ff := frozen_blk R7.out.box 16
      have R8 : Hid (FAt w q b sN #[.int .i64 K, .int .i64 x0, .int .i64 x1, .int .i64 x2, .int .i64 x3, .int .i64 x4, .int .i64 x5, .int .i64 x6, .int .i64 x7, .int .i64 x8, .int .i64 x9, .int .i64 x10, .int .i64 x11, .int .i64 x12, .int .i64 x13, .int .i64 x14, .string (strOf N), .string ⟨#[]⟩, .slice none 0 0, .slice none 0 0, .slice none 0 0] (w7.setCell ⟨b, 16, none⟩ (.string (strOf N)))) := R7.out.set 16 _
      clear hr7 hg7
      go_wp2_with fail
      go_meet
      exact R8
  case rest =>
  have F16 := hid hcut.out
  clear hcut F15 hq15 hB15 HNs
  generalize wc = W16 at *
  obtain ⟨B16, hB16⟩ : ∃ B, hasB P 16 = B := ⟨_, rfl⟩
  have hq16 : (P / 65536 % 2 == 1) = B16 := hB16
  rw [hB16] at HTs
  go_upto_if 115 with fail
  go_cut [] from 18 (fun wx => Hid (FAt w q b sT #[.int .i64 K, .int .i64 x0, .int .i64 x1, .int .i64 x2, .int .i64 x3, .int .i64 x4, .int .i64 x5, .int .i64 x6, .int .i64 x7, .int .i64 x8, .int .i64 x9, .int .i64 x10, .int .i64 x11, .int .i64 x12, .int .i64 x13, .int .i64 x14, .string (strOf N), .string (strOf T), .slice none 0 0, .slice none 0 0, .slice none 0 0] wx))
  case first =>
    cases B16 with
    | false =>
      have e := HTs.out
      simp only [optR, Bool.false_eq_true, if_false, Prod.mk.injEq] at e
      obtain ⟨e1, e2⟩ := e
      subst e1
      subst e2
      go_wp2_with fail
      go_meet
      exact F16
    | true =>
      have C := hid (rtext_any F16.out.rd 65536 (by omega) (by omega))
      have e := HTs.out
      simp only [optR, if_true] at e
      rw [e] at C
      clear e
      go_wp2_with fail
      refine C.out.mono ?_
      rintro e w7 ⟨rfl, hr7, hg7⟩
      have R7 := hid (F16.out.call hr7 hg7)
      have cc := cell_blk R7.out.box 17 (.string ⟨#[]⟩) rfl
      have ff := frozen_blk R7.out.box 17
      have R8 : Hid (FAt w q b sT #[.int .i64 K, .int .i64 x0, .int .i64 x1, .int .i64 x2, .int .i64 x3, .int .i64 x4, .int .i64 x5, .int .i64 x6, .int .i64 x7, .int .i64 x8, .int .i64 x9, .int .i64 x10, .int .i64 x11, .int .i64 x12, .int .i64 x13, .int .i64 x14, .string (strOf N), .string (strOf T), .slice none 0 0, .slice none 0 0, .slice none 0 0] (w7.setCell ⟨b, 17, none⟩ (.string (strOf T)))) := R7.out.set 17 _
      clear hr7 hg7
      go_wp2_with fail
      go_meet
      exact R8
  case rest =>
  have F17 := hid hcut.out
  rename_i Q1 K1 hK1
  refine hK1 _ _ ?_
  refine rd_bats p2i hP1 F17.out (by simp [Value.oneCell']) (fun B hB h => ?_) ?_
  · rw [HM2.out, hB, h]
    rfl
  · intro B BS sB ba bc V hB hbs hb _ B2 ES sI ea ec V' hB2 hes k1 s1 he _ B3 JS sJ ja jc V2 hB3 hjs k2 s2 hj _
    refine end_ok ?_ hb k1 s1 he k2 s2 hj
    rw [HM2.out, hB, hbs]
    unfold endR
    simp only [hB2, hes, hB3, hjs]
end Go.Proofs.YtocdlaoklagdoaaDoor
