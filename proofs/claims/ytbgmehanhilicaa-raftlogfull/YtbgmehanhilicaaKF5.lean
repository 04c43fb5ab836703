/- RaftlogFull: its walk. -/
import Derived.Test.YtbgmehanhilicaaKF4
import Derived.Deep.CutRange
import Derived.Deep.CutBlock
namespace Go.Proofs.Ytbgmehanhilicaa
open Go.RowKit Go.Maps
set_option maxRecDepth 100000
set_option linter.unusedSimpArgs false
set_option linter.unusedVariables false

set_option maxHeartbeats 6400000 in
theorem full_walk (w : World) (c0 : Int) (hc0 : -9223372036854775808 ≤ c0 ∧ c0 ≤ 9223372036854775807) (oa : Option Addr) (ks : List Int) (cap : Nat) (hk : Nums w oa ks) :
    Calls Try.prog 4 #[.int .i64 c0, .slice oa ks.length cap] w fun e w' => e = .returned (.bool true) ∧ Below w.heap.size w w' := by
  have hlen := hk.len
  unfold maxLen at hlen
  have HK := hid hk
  obtain ⟨rz, N, hrz, hN2, hpz⟩ := pick_one c0 3000 hc0.1 hc0.2 (by decide) (by decide) 3000 rfl
  have HPZ := hid hpz
  have hwN : IntKind.i64.wrap (1 + (N : Int)) = 1 + (N : Int) := IntWalk.i64_in _ ⟨by omega, by omega⟩
  have heN : (1 + (N : Int)) = ((N + 1 : Nat) : Int) := by omega
  clear hk hpz hc0 hrz
  go_enter Try.func4, Try.ntmps4
  go_wp2_with (go_at_call 5; refine (shown_any w).mono ?_; rintro e w0 ⟨rfl, hb0⟩; have HB0 := hid hb0; clear hb0)
  refine (HPZ.out _).mono ?_
  rintro e wz ⟨rfl, rfl⟩
  have H9 : Hid (Calls Try.prog 6 #[.int .i64 (1 + (N : Int))] wz fun e w' => e = .returned (.tuple #[.pointer (some ⟨wz.heap.size, 0, none⟩), .int .i64 0]) ∧ DiskA w' (fun k => k = wz.heap.size) wz.heap.size (N + 1) [] ∧ Below wz.heap.size wz w') := by rw [heN]; exact newA (N + 1) wz (by omega) (by omega)
  clear heN
  go_wp2_with fail
  refine H9.out.mono ?_
  rintro e w1 ⟨rfl, hD1, hb1⟩
  have H10 := hid (LF.new hD1 w (HB0.out.trans (hb1.mono HB0.out.size)) (fun k hk => by rw [hk]; exact HB0.out.size))
  clear H9 hD1 hb1
  obtain ⟨a, ha⟩ : ∃ a, a = wz.heap.size := ⟨_, rfl⟩
  rw [← ha] at H10 ⊢
  clear ha HB0
  go_wp2_with fail
  refine H10.out.mono ?_
  rintro e w2 ⟨rfl, hLF⟩
  obtain ⟨q, hq⟩ : ∃ q, q = w1.heap.size := ⟨_, rfl⟩
  rw [← hq] at hLF ⊢
  have HS0 := hid hLF
  clear hLF H10 hq
  go_wp2_with fail
  go_loopg [9] ks.length (fun kx s9 wr => ∃ (k : Nat) (l : List Et), k ≤ ks.length ∧ k ≤ 40 ∧ ks.length - k ≤ kx ∧ s9 = .int .i64 (k : Int) ∧ Hid (l.length ≤ k ∧ (∀ y ∈ l, y.t = 1) ∧ LF w wr NoB q a (N + 1) (sL l)))
  case atStart => exact ⟨0, [], by omega, by omega, by omega, rfl, Nat.le_refl _, by simp, HS0.out⟩
  case round =>
    obtain ⟨k, l, hk1, hk2, hkx, rfl, HD⟩ := hrel
    clear HS0
    by_cases hgo : k < ks.length ∧ k < 40
    · obtain ⟨hlt, h60⟩ := hgo
      have hlt' : (k : Int) < (ks.length : Int) := by omega
      have h60' : (k : Int) < 40 := by omega
      have hll := HD.out.1
      have H8 := hid HD.out.2.2.last
      have hlast := sL_last l HD.out.2.2.ok
      generalize lastE (sL l) = E at *
      go_wp2_with fail
      refine H8.out.mono ?_
      rintro e w3 ⟨rfl, hb3⟩
      have HL3 := hid (HD.out.2.2.under hb3)
      rw [hlast]
      have H13 := hid (HL3.out.read (by omega))
      clear H8 hb3 hlast
      go_wp2_with fail
      refine H13.out.mono ?_
      rintro e w4 ⟨v4, rfl, hE4, ho4, hb4⟩
      have HE4 := hid hE4
      have HO4 := hid ho4
      have HL4 := hid (HL3.out.under hb4)
      have HB4 := hid hb4
      clear H13 hE4 ho4 hb4
      obtain ⟨b, off, rfl, hcell, hr1, hr2⟩ := HK.out.get HL4.out.below k hlt
      obtain ⟨r, n, hrn, hn, hpick⟩ := pick_one ks[k] 300 hr1 hr2 (by decide) (by decide) 300 rfl
      have HP := hid hpick
      have HCL : Hid (∀ W, Below w.heap.size w W → W.cell? ⟨b, off + k, none⟩ = some (.int .i64 ks[k])) := fun W hb => HK.out.cell hb k hlt
      generalize ks[k] = c at *
      clear hpick hrn
      have hwl : IntKind.i64.wrap ((l.length : Int) + 1) = (l.length : Int) + 1 := IntWalk.i64_in _ ⟨by omega, by omega⟩
      go_wp2_with fail
      refine (HP.out _).mono ?_
      rintro e w5 ⟨rfl, hw5⟩
      obtain rfl : w4 = w5 := hw5.symm
      clear hw5
      obtain ⟨w5, hmk, hcv, hb5⟩ := make_zero w4 n (by omega)
      have HB5 := hid (HB4.out.trans (hb5.mono HB4.out.size))
      have HE5 := hid (HE4.out.under hb5)
      have HPO := hid (put_oneE (N + 1 - totalA (sL l).fs) l n HL3.out.ok HD.out.2.1 (by omega) (by omega))
      have HPU : Hid (∀ s' c, putE (N + 1 - totalA (sL l).fs) (sL l) (l.length : Int) [oneE l n] = (c, sL s') → Calls Try.prog 11 #[.pointer (some ⟨q, 0, none⟩), .int .i64 (l.length : Int), .slice (some ⟨w5.heap.size + 1, 0, none⟩) 1 1] ((w5.alloc (.cells #[.int .i64 1, .int .i64 ((l.length : Int) + 1), .string (strOf (List.replicate n 0))] 38)).alloc (.cells #[.int .i64 1, .int .i64 ((l.length : Int) + 1), .string (strOf (List.replicate n 0))] 38)) fun e w' => e = .returned (.int .i64 (c : Int)) ∧ ∃ Y, Put1 w w3 w' q a (N + 1) l s' (oneE l n) v4 w5.heap.size Y) := fun s' c h => put_one (oneE l n) HL3.out HB5.out HE5.out HO4.out s' c h
      clear hb5
      go_wp2_with fail
      rcases HPO.out with hP | hP
      · have H11 := hid (HPU.out _ _ hP)
        have HT2 := hid (oneE_t l n HD.out.2.1)
        clear hP HPO HPU hmk hcv hcell
        refine H11.out.mono ?_
        rintro e w6 ⟨rfl, Y, h6⟩
        have H6 := hid h6
        clear h6 H11
        generalize hp5 : w5.heap.size = p at *
        clear hp5
        have hl2 : (l ++ [oneE l n]).length = l.length + 1 := by simp
        have HR6 := hid (H6.out.log.read (by omega))
        go_wp2_with fail
        refine HR6.out.mono ?_
        rintro e w7 ⟨nv, rfl, hEn, hon, hb7⟩
        have H7 := hid (H6.out.under hb7)
        have HEN := hid hEn
        have HON7 : Hid (∀ z, nv.ownBlock = some z → v4.ownBlock ≠ some z) := fun z hz hz' => by have := hon z hz; have := H6.out.was.lt z hz'; omega
        clear hEn hon hb7 HR6 H6
        have z0 := cell_at H7.out.box (j := 0) rfl
        have z1 := cell_at H7.out.box (j := 1) rfl
        have z2 := cell_at H7.out.box (j := 2) rfl
        have hx1 : (oneE l n).t = 1 := rfl
        have hx2 : (oneE l n).i = (l.length : Int) + 1 := rfl
        have hx3 : (oneE l n).d = List.replicate n 0 := rfl
        rw [hx1] at z0
        rw [hx2] at z1
        rw [hx3] at z2
        clear hx1 hx2 hx3
        obtain ⟨i0, hi0, hz0, hz1, hz2⟩ := info38
        have HROW : Hid ((w7.alloc (.cells #[.int .i64 1, .int .i64 ((l.length : Int) + 1), .string (strOf (List.replicate n 0))] 38)).ownsRow 0 38 3 v4 l.length (flatT l)) := H7.out.was.under ((Below.refl _ _).alloc (Nat.le_refl _) _)
        have HNW1 : Hid (∀ j u, ([.int .i64 1, .int .i64 ((l.length : Int) + 1), .string (strOf (List.replicate n 0))] : List Value)[j]? = some u → (w7.alloc (.cells #[.int .i64 1, .int .i64 ((l.length : Int) + 1), .string (strOf (List.replicate n 0))] 38)).cell? ((⟨w7.heap.size, 0, none⟩ : Addr).add j) = some u) := news3 w7 _ _ _ 38
        have HON1 : Hid (∀ u ∈ ([.int .i64 1, .int .i64 ((l.length : Int) + 1), .string (strOf (List.replicate n 0))] : List Value), u.oneCell' = true) := news3_one _ _ _
        have HST : Hid (∀ v2 w8, w8.ownsRow 0 38 3 v2 (l.length + 1) (flatT l ++ [.int .i64 1, .int .i64 ((l.length : Int) + 1), .string (strOf (List.replicate n 0))]) → (w7.alloc (.cells #[.int .i64 1, .int .i64 ((l.length : Int) + 1), .string (strOf (List.replicate n 0))] 38)).grownBy w8 v4.ownBlock → (v2.ownBlock = v4.ownBlock ∨ v2.ownBlock = some (w7.alloc (.cells #[.int .i64 1, .int .i64 ((l.length : Int) + 1), .string (strOf (List.replicate n 0))] 38)).heap.size) → Std w w8 q a (N + 1) (l ++ [oneE l n]) v2 nv) := fun v2 w8 h1 h2 h3 => Std.push H7.out.log H7.out.was H7.out.own HEN.out HON7.out ((Below.refl _ _).alloc (Nat.le_refl _) _) h1 h2 h3
        generalize flatT l = F at *
        go_wp2_with (at_builtin; refine wpList_append_own_at _ rfl _ _ 31 rfl 0 38 i0 _ 3 32 Try.underlying31 hi0 hz0 hz1 hz2 rfl (by decide) _ l.length F rfl HROW.out ⟨w7.heap.size, 0, none⟩ 1 1 [.int .i64 1, .int .i64 ((l.length : Int) + 1), .string (strOf (List.replicate n 0))] rfl rfl HNW1.out HON1.out (by unfold maxLen; omega) (by omega) (by simp) ?_; intro v2 w8 hown8 hg8 _ hat8; have HSTD := hid (HST.out v2 w8 hown8 hg8 hat8); clear hown8 hg8 hat8 z0 z1 z2)
        clear HST HROW HNW1 HON1 H7 HEN HON7
        obtain ⟨l2, hl2e⟩ : ∃ l2, l2 = l ++ [oneE l n] := ⟨_, rfl⟩
        rw [← hl2e] at HSTD HT2 hl2
        clear hl2e
        have hl3 : l2.length ≤ k + 1 := by omega
        refine HSTD.out.same.mono ?_
        rintro e w9 ⟨rfl, hh9⟩
        have HH9 := hid hh9
        clear hh9 HSTD
        go_wp2_with fail
        refine (HH9.out.again (by omega)).mono ?_
        rintro e w10 ⟨rfl, hh10, hm10⟩
        have HH10 := hid hh10
        have HM10 := hid hm10
        clear hh10 hm10 HH9
        generalize hcb : w9.heap.size = m at HM10 ⊢
        clear hcb
        go_wp2_with fail
        refine (HH10.out.read HM10.out (by omega)).mono ?_
        rintro e w11 ⟨nv2, rfl, hs11⟩
        have HS11 := hid hs11
        clear hs11 HH10 HM10
        go_wp2_with fail
        refine HS11.out.same.mono ?_
        rintro e w12 ⟨rfl, hh12⟩
        have HH12 := hid hh12.lf
        clear hh12 HS11
        go_wp2_with fail
        go_roundg (ks.length - (k + 1))
        case measure => omega
        case rel => exact ⟨k + 1, l2, by omega, by omega, Nat.le_refl _, by go_num, by omega, HT2.out, HH12.out⟩
      · have H11 := hid (HPU.out _ _ hP)
        have HT2 := hid HD.out.2.1
        clear hP HPO HPU hmk hcv hcell
        refine H11.out.mono ?_
        rintro e w6 ⟨rfl, Y, h6⟩
        have H6 := hid h6
        clear h6 H11
        have HR6 := hid (H6.out.log.read (by omega))
        go_wp2_with fail
        refine HR6.out.mono ?_
        rintro e w7 ⟨nv, rfl, hEn, hon, hb7⟩
        have HSTD : Hid (Std w w7 q a (N + 1) l v4 nv) := ⟨⟨Y, (H6.out.log.under hb7), H6.out.was.under hb7, fun z hz => (H6.out.own z hz).1⟩, hEn⟩
        clear hEn hon hb7 HR6 H6
        go_wp2_with fail
        obtain ⟨l2, hl2e⟩ : ∃ l2, l2 = l := ⟨_, rfl⟩
        rw [← hl2e] at HSTD HT2
        have hl3 : l2.length ≤ k + 1 := by rw [hl2e]; omega
        clear hl2e
        refine HSTD.out.same.mono ?_
        rintro e w9 ⟨rfl, hh9⟩
        have HH9 := hid hh9
        clear hh9 HSTD
        go_wp2_with fail
        refine (HH9.out.again (by omega)).mono ?_
        rintro e w10 ⟨rfl, hh10, hm10⟩
        have HH10 := hid hh10
        have HM10 := hid hm10
        clear hh10 hm10 HH9
        generalize hcb : w9.heap.size = m at HM10 ⊢
        clear hcb
        go_wp2_with fail
        refine (HH10.out.read HM10.out (by omega)).mono ?_
        rintro e w11 ⟨nv2, rfl, hs11⟩
        have HS11 := hid hs11
        clear hs11 HH10 HM10
        go_wp2_with fail
        refine HS11.out.same.mono ?_
        rintro e w12 ⟨rfl, hh12⟩
        have HH12 := hid hh12.lf
        clear hh12 HS11
        go_wp2_with fail
        go_roundg (ks.length - (k + 1))
        case measure => omega
        case rel => exact ⟨k + 1, l2, by omega, by omega, Nat.le_refl _, by go_num, by omega, HT2.out, HH12.out⟩
    · rcases Nat.lt_or_ge k ks.length with hlt | hlt
      all_goals
        first
        | (have hlt' : (k : Int) < (ks.length : Int) := by omega
           have h60' : ¬ (k : Int) < 40 := by omega)
        | (have hlt' : ¬ (k : Int) < (ks.length : Int) := by omega)
        go_wp2_with fail
        go_ret
        exact ⟨rfl, HD.out.2.2.below⟩
end Go.Proofs.Ytbgmehanhilicaa

