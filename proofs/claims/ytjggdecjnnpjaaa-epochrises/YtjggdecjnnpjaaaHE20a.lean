/- EpochRises: what follows the script. -/
import Derived.Test.YtjggdecjnnpjaaaHSc
import Derived.Test.YtjggdecjnnpjaaaHE21
import Derived.Deep.CutRange
import Derived.Deep.CutBlock
namespace Go.Proofs.Ytjggdecjnnpjaaa
open Go.RowKit Go.Maps Go.Sort
set_option maxRecDepth 100000
set_option linter.unusedSimpArgs false
set_option linter.unusedVariables false


noncomputable def body5 : Code := Try.f5.body.getD .skip
/-- What follows the first n parts. -/
def tailAt : Nat → Code → Code
  | 0, c => c
  | n + 1, .seq _ b => tailAt n b
  | _ + 1, c => c
set_option maxHeartbeats 12800000 in
theorem rises_tail {w w1 wr : World} {so : Option Addr} {cap0 q a : Nat} {ops : List OpV} {epoch next : Int} {l : List (Int × Int)} {y3 y4 y5 y6 y7 y10 y11 y12 y13 y14 y15 y16 y17 y18 y19 y20 y21 y22 y23 y24 y25 y26 y27 y28 y29 y30 y31 y32 y33 y34 y35 y36 y37 y38 y39 y40 y41 y42 y43 y44 y45 y46 y47 y48 y49 y50 y51 y52 y53 y54 y55 y56 y57 y58 y59 y60 y61 y62 y63 y64 y65 y66 y67 y68 y69 y70 y71 y72 y73 y74 y75 y76 y77 y78 y79 y80 y81 y82 y83 y84 y85 y86 y87 y88 y89 y90 y91 y92 y93 y94 y95 y96 y97 y98 y99 y100 y101 y102 y103 y104 y105 y106 y107 y108 y109 y110 y111 y112 y113 y114 y115 y116 y117 y118 y119 y120 y121 y122 y123 y124 y125 y126 y127 y128 y129 y130 y131 y132 y133 y134 y135 y136 y137 y138 y139 y140 y141 y142 y143 y144 y145 y146 y147 y148 y149 y150 y151 y152 y153 y154 y155 y156 y157 y158 y159 y160 y161 y162 y163 y164 y165 y166 y167 y168 y169 y170 y171 y172 y173 y174 y175 y176 y177 y178 y179 y180 y181 y182 y183 y184 y185 y186 y187 y188 y189 y190 y191 y192 y193 y194 y195 y196 y197 y198 y199 y200 y201 y202 y203 y204 y205 y206 y207 y208 y209 y210 y211 y212 y213 y214 y215 y216 y217 y218 y219 y220 y221 y222 y223 y224 y225 y226 y227 y228 y229 y230 y231 y232 y233 y234 y235 y236 y237 y238 y239 y240 y241 y242 y243 y244 y245 y246 y247 y248 y249 y250 y251 y252 y253 y254 y255 y256 y257 y258 y259 y260 y261 y262 y263 y264 y265 y266 y267 y268 y269 : Value} (hB1 : Below w.heap.size w w1) (hC : CF w1 wr (fun _ => False) q a fname l 100000) :
    Code.wp Try.prog (tailAt 5 body5) (bodyPost Try.prog Try.f5 (fun e w' => e = .returned (.bool true) ∧ Below w.heap.size w w')) ⟨#[.slice so ops.length cap0, .int .i64 epoch, .int .i64 next, y3, y4, y5, y6, y7, .pointer (some ⟨q, 0, none⟩), .pointer (some ⟨a, 0, none⟩), y10, y11, y12, y13, y14, y15, y16, y17, y18, y19, y20, y21, y22, y23, y24, y25, y26, y27, y28, y29, y30, y31, y32, y33, y34, y35, y36, y37, y38, y39, y40, y41, y42, y43, y44, y45, y46, y47, y48, y49, y50, y51, y52, y53, y54, y55, y56, y57, y58, y59, y60, y61, y62, y63, y64, y65, y66, y67, y68, y69, y70, y71, y72, y73, y74, y75, y76, y77, y78, y79, y80, y81, y82, y83, y84, y85, y86, y87, y88, y89, y90, y91, y92, y93, y94, y95, y96, y97, y98, y99, y100, y101, y102, y103, y104, y105, y106, y107, y108, y109, y110, y111, y112, y113, y114, y115, y116, y117, y118, y119, y120, y121, y122, y123, y124, y125, y126, y127, y128, y129, y130, y131, y132, y133, y134, y135, y136, y137, y138, y139, y140, y141, y142, y143, y144, y145, y146, y147, y148, y149, y150, y151, y152, y153, y154, y155, y156, y157, y158, y159, y160, y161, y162, y163, y164, y165, y166, y167, y168, y169, y170, y171, y172, y173, y174, y175, y176, y177, y178, y179, y180, y181, y182, y183, y184, y185, y186, y187, y188, y189, y190, y191, y192, y193, y194, y195, y196, y197, y198, y199, y200, y201, y202, y203, y204, y205, y206, y207, y208, y209, y210, y211, y212, y213, y214, y215, y216, y217, y218, y219, y220, y221, y222, y223, y224, y225, y226, y227, y228, y229, y230, y231, y232, y233, y234, y235, y236, y237, y238, y239, y240, y241, y242, y243, y244, y245, y246, y247, y248, y249, y250, y251, y252, y253, y254, y255, y256, y257, y258, y259, y260, y261, y262, y263, y264, y265, y266, y267, y268, y269], []⟩ wr := by
  have HB1 := hid hB1
  have HK := hid hC.ok
  have C2 := hid hC
  have HAll := hid hC.all
  clear hB1 hC
  conv => arg 2; whnf
  go_wp2_with fail
  refine HAll.out.mono ?_
  rintro e w3 ⟨rv, rfl, hr3, hb3⟩
  have C3 := hid (C2.out.with hb3 (fun x => rv.ownBlock = some x) (fun x hx => .inr (World.ownsRow.lt hr3 x hx)))
  have A3 := hid (AL.of hr3)
  have HEn := hid (C3.out.end' epoch next)
  have HIn := hid (endW_in HK.out epoch next)
  have HNo := hid (endW_none HK.out epoch next)
  obtain ⟨lo, lc, rfl, hlo⟩ := A3.out.shape
  have hl200 := HK.out.few
  clear hr3 hb3 C2 HAll
  generalize endW l epoch next = EN at *
  obtain ⟨ea, eb⟩ := EN
  simp only at HEn HIn HNo
  go_wp2_with fail
  refine HEn.out.mono ?_
  rintro e w4 ⟨rfl, hb4⟩
  have C4 := hid (C3.out.under hb4)
  have A4 := hid (A3.out.under hb4)
  clear hb4 C3 A3 HEn
  go_wp2_with fail
  go_loopg [20] l.length (fun jx s20 wq => ∃ j : Nat, j ≤ l.length ∧ l.length - j ≤ jx ∧ s20 = .int .i64 (j : Int) ∧ Hid (Below w4.heap.size w4 wq))
  case atStart => exact ⟨0, by omega, by omega, rfl, Below.refl _ _⟩
  case round =>
    obtain ⟨j, hj, hjx, rfl, HJ⟩ := hrel
    by_cases hjl : j < l.length
    · have hjl' : (j : Int) < (l.length : Int) := by omega
      have hx : l[j]? = some l[j] := List.getElem?_eq_getElem hjl
      obtain ⟨lg, rfl⟩ := hlo (by omega)
      obtain ⟨y0, y1, y2⟩ := (A4.out.under HJ.out).at_ j _ hx
      have HX := hid (HIn.out j _ hx)
      clear hx
      generalize l[j] = x at *
      have d6 : IntKind.i64.wrap ((j : Int) + 1) = (j : Int) + 1 := IntWalk.i64_in _ (by omega)
      have d7 : (0 : Int) ≤ (j : Int) + 1 := by omega
      have d8 : ((j : Int) + 1).toNat = j + 1 := by omega
      by_cases hj1 : j + 1 < l.length
      · have hj1' : (j : Int) + 1 < (l.length : Int) := by omega
        have hy : l[j + 1]? = some l[j + 1] := List.getElem?_eq_getElem hj1
        obtain ⟨v0, v1, v2⟩ := (A4.out.under HJ.out).at_ (j + 1) _ hy
        by_cases hxa : x.1 = ea
        · obtain ⟨f1, f2, f3⟩ := HX.out hxa
          obtain ⟨f4, f5⟩ := f3 _ hy
          clear hy f2 f3
          generalize l[j + 1] = y at *
          have b1 : (x.1 == ea) = true := by simp [hxa]
          have b2 : decide (epoch < ea) = false := decide_eq_false (by omega)
          have b3 : (eb != y.2) = false := by simp [f4]
          clear f4
          have b4 : decide ((j : Int) + 1 < (l.length : Int)) = true := decide_eq_true hj1'
          have b5 : decide (y.1 ≤ epoch) = false := decide_eq_false (by omega)
          clear hxa
          go_wp2_with fail
          go_roundg (l.length - (j + 1))
          case measure => omega
          case rel => exact ⟨j + 1, by omega, Nat.le_refl _, by go_num, by first | exact HJ | exact below_drewN HJ.out _⟩
        · clear hy
          generalize l[j + 1] = y at *
          have b1 : (x.1 == ea) = false := by simp [hxa]
          clear hxa
          go_wp2_with fail
          go_roundg (l.length - (j + 1))
          case measure => omega
          case rel => exact ⟨j + 1, by omega, Nat.le_refl _, by go_num, by first | exact HJ | exact below_drewN HJ.out _⟩
      · have hj1' : ¬ (j : Int) + 1 < (l.length : Int) := by omega
        have b4 : decide ((j : Int) + 1 < (l.length : Int)) = false := decide_eq_false hj1'
        by_cases hxa : x.1 = ea
        · obtain ⟨f1, f2, f3⟩ := HX.out hxa
          have f4 := f2 (by omega)
          clear f2 f3
          have b1 : (x.1 == ea) = true := by simp [hxa]
          have b2 : decide (epoch < ea) = false := decide_eq_false (by omega)
          have b3 : (eb != next) = false := by simp [f4]
          clear f4
          clear hxa
          go_wp2_with fail
          go_roundg (l.length - (j + 1))
          case measure => omega
          case rel => exact ⟨j + 1, by omega, Nat.le_refl _, by go_num, by first | exact HJ | exact below_drewN HJ.out _⟩
        · have b1 : (x.1 == ea) = false := by simp [hxa]
          clear hxa
          go_wp2_with fail
          go_roundg (l.length - (j + 1))
          case measure => omega
          case rel => exact ⟨j + 1, by omega, Nat.le_refl _, by go_num, by first | exact HJ | exact below_drewN HJ.out _⟩
    · have hjl' : ¬ (j : Int) < (l.length : Int) := by omega
      have C5 := hid (C4.out.under HJ.out)
      have A5 := hid (A4.out.under HJ.out)
      clear HJ C4 A4
      have HCr := hid C5.out.crash123
      have hNo := HNo.out
      have HL0 : Hid (l = [] ∨ ∃ x, l[0]? = some x) := by
        cases l with
        | nil => exact .inl rfl
        | cons x rr => exact .inr ⟨x, rfl⟩
      clear HNo HIn
      by_cases hea : ea = -1
      · obtain ⟨f1, f2⟩ := hNo hea
        have g1 : (ea == -1) = true := by simp [hea]
        have g2 : (eb != -1) = false := by simp [f1]
        rcases HL0.out with hl | ⟨x, hx⟩
        · have hl0 : ¬ 0 < l.length := by rw [hl]; simp
          have hl0' : ¬ (0 : Int) < (l.length : Int) := by omega
          have g3 : decide ((0 : Int) < (l.length : Int)) = false := decide_eq_false hl0'
          clear hl hea f1 f2 hNo HL0
          go_wp2_with fail
          refine HCr.out.mono ?_
          rintro e w6 ⟨rfl, hc6, hx6, hs6⟩
          have C6 := hid hc6
          have A6 := hid (A5.out.kept hs6 (fun x hx _ => hx6 x hx))
          have HOp := hid C6.out.open
          clear hc6 hx6 HCr C5 A5
          go_wp2_with fail
          refine HOp.out.mono ?_
          rintro e w7 ⟨q7, rfl, hc7, hb7⟩
          have HAg := hid (hc7.again (A6.out.under hb7))
          clear hc7 hb7 HOp C6 A6
          go_wp2_with fail
          refine HAg.out.mono ?_
          rintro e w8 ⟨rv8, rfl, hb8, hs8⟩
          have HS := hid hs8
          clear hs8 hb8 HAg
          go_wp2_with fail
          refine HS.out.mono ?_
          rintro e w9 ⟨rfl, hb9⟩
          go_wp2_with fail
          go_ret
          exact ⟨rfl, HB1.out.trans (hb9.mono HB1.out.size)⟩
        · have f3 := f2 x hx
          have hlp : 0 < l.length := (List.getElem?_eq_some_iff.1 hx).1
          have hlp' : (0 : Int) < (l.length : Int) := by omega
          obtain ⟨lg, rfl⟩ := hlo hlp
          obtain ⟨y0, y1, y2⟩ := A5.out.at_ 0 _ hx
          have f4 : ¬ x.1 ≤ epoch := by omega
          clear hx f2 f1 f3 hea hNo HL0
          go_wp2_with fail
          refine HCr.out.mono ?_
          rintro e w6 ⟨rfl, hc6, hx6, hs6⟩
          have C6 := hid hc6
          have A6 := hid (A5.out.kept hs6 (fun x hx _ => hx6 x hx))
          have HOp := hid C6.out.open
          clear hc6 hx6 HCr C5 A5
          go_wp2_with fail
          refine HOp.out.mono ?_
          rintro e w7 ⟨q7, rfl, hc7, hb7⟩
          have HAg := hid (hc7.again (A6.out.under hb7))
          clear hc7 hb7 HOp C6 A6
          go_wp2_with fail
          refine HAg.out.mono ?_
          rintro e w8 ⟨rv8, rfl, hb8, hs8⟩
          have HS := hid hs8
          clear hs8 hb8 HAg
          go_wp2_with fail
          refine HS.out.mono ?_
          rintro e w9 ⟨rfl, hb9⟩
          go_wp2_with fail
          go_ret
          exact ⟨rfl, HB1.out.trans (hb9.mono HB1.out.size)⟩
      · have hea' : (ea == -1) = false := by simp [hea]
        clear hea hNo HL0
        go_wp2_with fail
        refine HCr.out.mono ?_
        rintro e w6 ⟨rfl, hc6, hx6, hs6⟩
        have C6 := hid hc6
        have A6 := hid (A5.out.kept hs6 (fun x hx _ => hx6 x hx))
        have HOp := hid C6.out.open
        clear hc6 hx6 HCr C5 A5
        go_wp2_with fail
        refine HOp.out.mono ?_
        rintro e w7 ⟨q7, rfl, hc7, hb7⟩
        have HAg := hid (hc7.again (A6.out.under hb7))
        clear hc7 hb7 HOp C6 A6
        go_wp2_with fail
        refine HAg.out.mono ?_
        rintro e w8 ⟨rv8, rfl, hb8, hs8⟩
        have HS := hid hs8
        clear hs8 hb8 HAg
        go_wp2_with fail
        refine HS.out.mono ?_
        rintro e w9 ⟨rfl, hb9⟩
        go_wp2_with fail
        go_ret
        exact ⟨rfl, HB1.out.trans (hb9.mono HB1.out.size)⟩

end Go.Proofs.Ytjggdecjnnpjaaa

