/- TimerOrder: the second loop, and what follows. -/
import Derived.Test.YtohbnkghenlnoaaOc
namespace Go.Proofs.Ytohbnkghenlnoaa
open Go.RowKit Go.Maps
set_option maxRecDepth 100000
set_option linter.unusedSimpArgs false
set_option linter.unusedVariables false

set_option maxHeartbeats 8000000 in
theorem ord_b {w w1 : World} {S : Nat → Prop} {a m cap0 cap1 : Nat} {s : List Tm} {so po : Option Addr} {ops : List OpV} {steps : List Int} {y2 y3 y4 y5 y8 y9 y10 y11 y12 y13 y14 y15 y16 y17 y18 y19 y20 y21 y22 y23 y24 y25 y26 y27 y28 y29 y30 y31 y32 y33 y34 y35 y36 y37 y38 y39 y40 y41 y42 y43 y44 y45 y46 y47 y48 y49 y50 y51 y52 y53 y54 y55 y56 y57 y58 y59 y60 y61 y62 y63 y64 y65 y66 y67 y68 y69 y70 y71 y72 y73 y74 y75 y76 y77 y78 y79 y80 y81 y82 y83 y84 y85 y86 y87 y88 y89 y90 y91 y92 y93 y94 y95 y96 y97 y98 y99 y100 y101 y102 y103 y104 y105 y106 y107 y108 y109 y110 y111 y112 y113 y114 y115 y116 y117 y118 y119 y120 y121 y122 y123 y124 y125 y126 y127 y128 y129 y130 y131 y132 y133 y134 y135 y136 y137 y138 y139 y140 y141 y142 y143 y144 y145 y146 y147 y148 y149 y150 y151 y152 y153 y154 y155 y156 y157 y158 y159 y160 y161 y162 y163 y164 y165 y166 y167 y168 y169 y170 y171 y172 y173 y174 y175 y176 y177 y178 y179 y180 y181 y182 y183 y184 y185 y186 y187 y188 y189 y190 y191 y192 y193 y194 y195 y196 y197 : Value} (hops : OpsAt w so ops) (hlen : ops.length ≤ maxLen) (hsteps : RowAt w po steps) (hlen2 : steps.length ≤ maxLen) (hm1 : m ≤ ops.length) (hm3 : m ≤ 300) (hmm : m = ops.length ∨ m = 300)
    (hTA : TA w1 S a s) (hS0 : ∀ k, S k → w.heap.size ≤ k) (hB1 : Below w.heap.size w w1) (hOrd0 : Ord ops s m) :
    Code.wp Try.prog (tailAt 6 body5) (bodyPost Try.prog Try.f5 (fun e w' => e = .returned (.bool true) ∧ Below w.heap.size w w')) ⟨#[.slice so ops.length cap0, .slice po steps.length cap1, y2, y3, y4, y5, .pointer (some ⟨a, 0, none⟩), .int .i64 (s.length : Int), y8, y9, y10, y11, y12, y13, y14, y15, y16, y17, y18, y19, y20, y21, y22, y23, y24, y25, y26, y27, y28, y29, y30, y31, y32, y33, y34, y35, y36, y37, y38, y39, y40, y41, y42, y43, y44, y45, y46, y47, y48, y49, y50, y51, y52, y53, y54, y55, y56, y57, y58, y59, y60, y61, y62, y63, y64, y65, y66, y67, y68, y69, y70, y71, y72, y73, y74, y75, y76, y77, y78, y79, y80, y81, y82, y83, y84, y85, y86, y87, y88, y89, y90, y91, y92, y93, y94, y95, y96, y97, y98, y99, y100, y101, y102, y103, y104, y105, y106, y107, y108, y109, y110, y111, y112, y113, y114, y115, y116, y117, y118, y119, y120, y121, y122, y123, y124, y125, y126, y127, y128, y129, y130, y131, y132, y133, y134, y135, y136, y137, y138, y139, y140, y141, y142, y143, y144, y145, y146, y147, y148, y149, y150, y151, y152, y153, y154, y155, y156, y157, y158, y159, y160, y161, y162, y163, y164, y165, y166, y167, y168, y169, y170, y171, y172, y173, y174, y175, y176, y177, y178, y179, y180, y181, y182, y183, y184, y185, y186, y187, y188, y189, y190, y191, y192, y193, y194, y195, y196, y197], []⟩ w1 := by
  have HC := hid (And.intro hops (And.intro hlen (And.intro hsteps hlen2)))
  have hlen' : ops.length ≤ 9223372036854775807 := by unfold maxLen at hlen; exact hlen
  have HOps : Hid (∀ i (h : i < ops.length), ops[i].ok ∧ ∃ b off, so = some ⟨b, off, none⟩ ∧ b < w.heap.size ∧ ∀ W, Below w.heap.size w W → OpCells W b (off + i * 3) ops[i]) := fun i hi => by
    rcases hops with h | ⟨b, off, e, hb, hc⟩
    · rw [h] at hi; simp at hi
    · exact ⟨(hc i hi).1, b, off, e, hb, fun W hW => ⟨(hW.cell hb).trans (hc i hi).2.1, (hW.cell hb).trans (hc i hi).2.2.1, (hW.cell hb).trans (hc i hi).2.2.2⟩⟩
  clear hops hlen hsteps hlen2
  have HTA := hid hTA
  have HB1 := hid hB1
  have HS0 := hid hS0
  have HOrd := hid hOrd0
  have HAt : Hid (∀ W, Below w1.heap.size w1 W → ∀ k, I64 k → Calls Try.prog 16 #[.pointer (some ⟨a, 0, none⟩), .int .i64 k] W fun e w' => e = .returned (.int .i64 (atL s k)) ∧ w' = W) := fun W hW k hk => at_any (HTA.out.under hW) k hk
  clear hTA hS0 hB1 hOrd0
  obtain ⟨i3, hi3, hz0, hz1, hz2⟩ := info_parts3
  conv => arg 2; whnf
  go_wp2
  go_loopg [9, 10] m (fun kx s9 si wr => ∃ (j : Nat) (ob : Option Addr) (cb : Nat), j ≤ m ∧ m - j ≤ kx ∧ s9 = .slice ob j cb ∧ si = .int .i64 (j : Int) ∧ Hid (Below w1.heap.size w1 wr ∧ wr.ownsRow w1.heap.size 3 1 (.slice ob j cb) j (cellsI (wantL ops s j))))
  case atStart => exact ⟨0, none, 0, Nat.zero_le _, by omega, rfl, rfl, .refl _ _, ⟨rfl, .inl ⟨rfl, rfl⟩⟩⟩
  case round =>
    obtain ⟨j, ob, cb, hj, hkx2, rfl, rfl, HI⟩ := hrel
    by_cases hltm : j < m
    · have hlt : j < ops.length := by omega
      have hjz : (j : Int) < (ops.length : Int) := by omega
      have hj3 : (j : Int) < 300 := by omega
      obtain ⟨hok, b, off, rfl, hbl, hcell⟩ := HOps.out j hlt
      obtain ⟨_, p1, _⟩ := hcell _ (HB1.out.trans (HI.out.1.mono HB1.out.size))
      have HA1 := hid (HAt.out _ HI.out.1 ops[j].key hok.2.1)
      have HN : Hid (wantL ops s (j + 1) = wantL ops s j ++ [atL s ops[j].key]) := wantL_next hlt
      generalize atL s ops[j].key = at0 at *
      generalize ops[j] = x at p1 HA1
      have hsz := HI.out.1.size
      go_wp2_with (first
        | (go_at_call 16; refine HA1.out.mono ?_; rintro e w3 ⟨rfl, h⟩; have h' := h.symm; subst h'; clear HA1)
        | (at_builtin; refine wpList_append_own _ rfl _ _ 37 rfl w1.heap.size 3 i3 _ 1 8 Try.underlying37 hi3 hz0 hz1 hz2 rfl (by decide) _ j (cellsI (wantL ops s j)) rfl (row_alloc HI.out.2 _) ⟨wr.heap.size, 0, none⟩ 1 1 [.int .i64 at0] rfl rfl (one_cell rfl) (by simp [Value.oneCell']) (by unfold maxLen; omega) (by omega) (by simp; omega) ?_; intro v5 w5 hown5 hg5 _; obtain ⟨ob5, cb5, rfl⟩ := row_shape hown5; have H5 := hid (And.intro (grown_own (xs := cellsI (wantL ops s j)) (ys := []) (m := 0) (v' := .slice ob5 (j + 1) cb5) HI.out.1 HI.out.2 hg5) hown5); clear hown5 hg5))
      go_roundg (m - (j + 1))
      case measure => omega
      case rel => exact ⟨j + 1, ob5, cb5, by omega, Nat.le_refl _, rfl, by go_num, H5.out.1, by rw [HN.out]; simpa [cellsI] using H5.out.2⟩
    · obtain rfl : j = m := by omega
      by_cases hlt : j < ops.length
      · have hjz : (j : Int) < (ops.length : Int) := by omega
        have hj3 : ¬ (j : Int) < 300 := by omega
        clear hmm
        rename (∀ (a : Act) (w : World), Code.wp Try.prog _ _ a w → _) => hK3
        have HK3 := hid hK3
        clear hK3
        go_wp2_with fail
        refine HK3.out _ _ ?_
        exact ord_c HC.out.1 HC.out.2.1 HC.out.2.2.1 HC.out.2.2.2 hm1 hm3 HTA.out HS0.out HB1.out HOrd.out HI.out.1 HI.out.2

      · have hjz : ¬ ((j : Int) < (ops.length : Int)) := by omega
        clear hmm
        rename (∀ (a : Act) (w : World), Code.wp Try.prog _ _ a w → _) => hK3
        have HK3 := hid hK3
        clear hK3
        go_wp2_with fail
        refine HK3.out _ _ ?_
        exact ord_c HC.out.1 HC.out.2.1 HC.out.2.2.1 HC.out.2.2.2 hm1 hm3 HTA.out HS0.out HB1.out HOrd.out HI.out.1 HI.out.2

end Go.Proofs.Ytohbnkghenlnoaa
