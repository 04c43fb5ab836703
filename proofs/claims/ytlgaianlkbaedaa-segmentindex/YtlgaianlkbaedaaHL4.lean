/- SegmentIndex. -/
import Derived.Test.YtlgaianlkbaedaaH39
import Derived.Test.YtlgaianlkbaedaaH35
import Derived.Test.YtlgaianlkbaedaaHL3
namespace Go.Proofs.Ytlgaianlkbaedaa
open Go.RowKit Go.Maps Go.Sort
set_option maxRecDepth 100000
set_option linter.unusedSimpArgs false
set_option linter.unusedVariables false

/-- What the law holds of an index. -/
structure IdxOk (bs : List Bat) (ix : List Mk) : Prop where
  none : ix.length = 0 ↔ bs.length = 0
  first : ∀ x, ix[0]? = some x → x.base = 3 ∧ x.at_ = 0
  rise : Rise ix
  low : ∀ x ∈ ix, x.base ≤ 1000000000 ∧ x.at_ ≤ 20000000
theorem idx_ok (bs : List Bat) (hF : Fits ⟨3, 0, 0⟩ bs) (hl : (fileL bs).length ≤ 16777216) : IdxOk bs (idxM ⟨3, 0, 0⟩ [] bs) := by
  refine ⟨?_, fun x hx => ?_, rise_of bs _ hF, fun x hx => ?_⟩
  · cases bs with
    | nil => simp [idxM]
    | cons b r =>
      have h := idx_first b r ⟨3, 0, 0⟩
      have h1 : 0 < (idxM ⟨3, 0, 0⟩ [] (b :: r)).length := by
        rcases Nat.eq_zero_or_pos (idxM ⟨3, 0, 0⟩ [] (b :: r)).length with h0 | h0
        · rw [List.eq_nil_of_length_eq_zero h0] at h; simp at h
        · exact h0
      simp only [List.length_cons]
      omega
  · cases bs with
    | nil => simp [idxM] at hx
    | cons b r =>
      rw [idx_first] at hx
      cases hx
      exact ⟨rfl, rfl⟩
  · rcases idxM_mem bs _ _ x hx with h1 | ⟨t, h1, h2⟩
    · cases h1
    · have hb := fits_bound (bs.take t) _ (fits_take bs _ t hF) (by decide) (Nat.zero_le _)
      have ha := endM_at (bs.take t) ⟨3, 0, 0⟩
      have hl2 := fileL_take_le bs t
      subst h2
      exact ⟨hb.1, by rw [ha]; simp; omega⟩
set_option maxHeartbeats 6400000 in
theorem index_walk (w : World) (oa : Option Addr) (ks : List Int) (cap : Nat) (hk : Nums w oa ks) :
    Calls Try.prog 7 #[.slice oa ks.length cap] w fun e w' => e = .returned (.bool true) ∧ Below w.heap.size w w' := by
  have hlen := hk.len
  unfold maxLen at hlen
  have HK := hid hk
  clear hk
  go_enter Try.func7, Try.ntmps7
  go_wp2_with (go_at_call 8; refine (shown_any w).mono ?_; rintro e w0 ⟨rfl, hb0⟩; have HB0 := hid hb0; clear hb0)
  have H9 : Hid (Calls Try.prog 9 #[.int .i64 2000000] w0 fun e w' => e = .returned (.tuple #[.pointer (some ⟨w0.heap.size, 0, none⟩), .int .i64 0]) ∧ DiskA w' (fun k => k = w0.heap.size) w0.heap.size 2000000 [] ∧ Below w0.heap.size w0 w') := newA 2000000 w0 (by decide) (by decide)
  refine H9.out.mono ?_
  rintro e w1 ⟨rfl, hD1, hb1⟩
  have H10 : Hid (Calls Try.prog 10 #[.pointer (some ⟨w0.heap.size, 0, none⟩), .string ⟨#[115]⟩, .int .i64 3] w1 _) := so_new 3 hD1 (HB0.out.trans (hb1.mono HB0.out.size)) (fun k hk => by rw [hk]; exact HB0.out.size) (by decide)
  clear H9 hD1 hb1
  generalize w0.heap.size = a at *
  go_wp2_with fail
  refine H10.out.mono ?_
  rintro e w2 ⟨q, rfl, hSO, _⟩
  have HS0 := hid hSO
  clear hSO H10
  go_wp2_with fail
  go_loopg [8] ks.length (fun kx s7 wr => ∃ (k : Nat) (bs : List Bat), k ≤ ks.length ∧ k ≤ 60 ∧ ks.length - k ≤ kx ∧ s7 = .int .i64 (k : Int) ∧ Hid (bs.length = k ∧ Smalls bs ∧ SO w wr (fun _ => False) q a 3 2000000 bs 0))
  case atStart => exact ⟨0, [], by omega, by omega, by omega, rfl, rfl, Smalls.nil, HS0.out⟩
  case round =>
    obtain ⟨k, bs, hk1, hk2, hkx, rfl, HD⟩ := hrel
    clear HS0
    by_cases hgo : k < ks.length ∧ k < 60
    · obtain ⟨hlt, h60⟩ := hgo
      have hlt' : (k : Int) < (ks.length : Int) := by omega
      have h60' : (k : Int) < 60 := by omega
      obtain ⟨b, off, rfl, hcell, hr1, hr2⟩ := HK.out.get HD.out.2.2.below k hlt
      obtain ⟨r, n, hrn, hr0, hr30, hn1, hn30, hpick⟩ := pick_one ks[k] 30 hr1 hr2 (by decide) (by decide) 30 rfl
      have hend := HD.out.2.1.ends 3
      have hfile := HD.out.2.1.file
      have hbl := HD.out.1
      rw [hbl] at hend hfile
      have HP := hid hpick
      have HCL : Hid (∀ W, Below w.heap.size w W → W.cell? ⟨b, off + k, none⟩ = some (.int .i64 ks[k])) := fun W hb => HK.out.cell hb k hlt
      have H12 : Hid (∀ W, Below wr.heap.size wr W → Calls Try.prog 12 #[.pointer (some ⟨q, 0, none⟩)] W fun e w' => e = .returned (.int .i64 ((endM ⟨3, 0, 0⟩ bs).base : Int)) ∧ w' = W) := fun W hb => (HD.out.2.2.under hb).next
      have hlen2 := smallB_len (endM ⟨3, 0, 0⟩ bs).base n hn1 hn30 (by omega)
      have H11 : Hid (∀ W, Calls Try.prog 11 #[.int .i64 ((endM ⟨3, 0, 0⟩ bs).base : Int), .int .i64 (n : Int)] W fun e w' => ∃ rv, e = .returned (.agg #[.int .i64 ((endM ⟨3, 0, 0⟩ bs).base : Int), .int .i64 1, .int .i64 0, .int .i64 0, .int .i64 0, rv]) ∧ Recs w' rv (List.replicate n smallR) ∧ (∀ k, rv.ownBlock = some k → W.heap.size ≤ k) ∧ Below W.heap.size W w') := fun W => small_any W _ n (by omega)
      have H14 : Hid (∀ W rv, Below wr.heap.size wr W → Recs W rv (List.replicate n smallR) → Calls Try.prog 14 #[.pointer (some ⟨q, 0, none⟩), .agg #[.int .i64 ((endM ⟨3, 0, 0⟩ bs).base : Int), .int .i64 1, .int .i64 0, .int .i64 0, .int .i64 0, rv]] W fun e w' => e = .returned (.int .i64 0) ∧ SO w w' (fun _ => False) q a 3 2000000 (bs ++ [smallB (endM ⟨3, 0, 0⟩ bs).base n]) 0 ∧ KX (fun _ => False) W w' ∧ W.heap.size ≤ w'.heap.size) := fun W rv hb hrv => (HD.out.2.2.under hb).append _ rfl n hn1 hn30 (by omega) (by omega) rv hrv (by omega)
      have HSM := hid (HD.out.2.1.push (endM ⟨3, 0, 0⟩ bs).base n hn1 hn30 (by omega))
      have hNX : ((endM ⟨3, 0, 0⟩ bs).base : Int) ≤ 4000 := by omega
      have hNX0 : (0 : Int) ≤ ((endM ⟨3, 0, 0⟩ bs).base : Int) := by omega
      have hwr : IntKind.i64.wrap (n : Int) = (n : Int) := by simp [IntKind.wrap, IntKind.bits, IntKind.signed]; omega
      clear hend hfile hlen2 hpick
      generalize smallB (endM ⟨3, 0, 0⟩ bs).base n = NB at *
      generalize ((endM ⟨3, 0, 0⟩ bs).base : Int) = NX at *
      generalize ks[k] = c at *
      go_wp2_with fail
      go_region_held3 (fun w' => w'.cell? ⟨b, off + k, none⟩ = some (.int .i64 c)) (go_keep)
        (first
        | (go_at_call 12; refine (H12.out _ (by repeat (first | exact Below.refl _ _ | apply Below.drew))).mono ?_; rintro e w4 ⟨rfl, rfl⟩)
        | (go_at_call 13; refine (HP.out _).mono ?_; rintro e w4 ⟨rfl, rfl⟩)
        | (go_at_call 11; refine (H11.out _).mono ?_; rintro e w5 ⟨rv, rfl, hr5, ho5, hb5⟩; have HB5 : Hid (Below wr.heap.size wr w5) := (by first | exact hb5 | exact (Below.refl _ _).drew.trans hb5 | exact (Below.refl _ _).drew.drew.trans hb5); have HR5 := hid hr5; have hc5 := (World.cell?_of_block (HB5.out.block b (World.block_lt_of_cell? _ _ hcell))).trans hcell; clear hr5 ho5 hb5)
        | (go_at_call 14; refine (H14.out _ _ (by first | exact HB5.out | exact HB5.out.drew | exact HB5.out.drew.drew) (by first | exact HR5.out | exact HR5.out.under (Below.refl _ _).drew)).mono ?_; rintro e w6 ⟨rfl, hso6, _, _⟩; have HS6 := hid hso6; have hc6 := HCL.out _ hso6.below; clear hso6)
        | fail)
      all_goals
        go_wp2_with fail
        go_roundg (ks.length - (k + 1))
        case measure => omega
        case rel => exact ⟨k + 1, bs ++ [NB], by omega, by omega, Nat.le_refl _, by go_num, by simp [hbl], HSM.out, HS6.out⟩
    · have HS := hid HD.out.2.2
      have hbl := HD.out.1
      have HIX := hid (idx_ok bs HS.out.fits HS.out.lens.2.1)
      have H23 : Hid (Calls Try.prog 23 #[.pointer (some ⟨q, 0, none⟩)] wr fun e w' => ∃ rv, e = .returned rv ∧ w'.ownsRow wr.heap.size 53 3 rv (idxM ⟨3, 0, 0⟩ [] bs).length (flatE (idxM ⟨3, 0, 0⟩ [] bs)) ∧ Below wr.heap.size wr w') := HS.out.index
      obtain ⟨ix, hix⟩ : ∃ ix, ix = idxM ⟨3, 0, 0⟩ [] bs := ⟨_, rfl⟩
      rw [← hix] at HIX H23
      have HI := hid hix
      have hm := idxM_len bs ⟨3, 0, 0⟩ []
      rw [← hix] at hm
      simp only [List.length_nil, Nat.zero_add] at hm
      have h00 := HIX.out.none
      clear hix
      rcases Nat.lt_or_ge k ks.length with hlt | hlt
      all_goals
        first
        | (have hlt' : (k : Int) < (ks.length : Int) := by omega
           have h60' : ¬ (k : Int) < 60 := by omega
           have hz : ix.length = 0 ↔ ks.length = 0 := by omega)
        | (have hlt' : ¬ (k : Int) < (ks.length : Int) := by omega
           have hz : ix.length = 0 ↔ ks.length = 0 := by omega)
        go_wp2_with fail
        refine H23.out.mono ?_
        rintro e w3 ⟨rv, rfl, hrow, hb3⟩
        obtain ⟨o3, c3, rfl, hg3⟩ := ent_shape hrow
        have HROW := hid hrow
        obtain ⟨X, hxs, hxr⟩ : ∃ X : Nat → Prop, SO w w3 X q a 3 2000000 bs 0 ∧ ∀ k, (Value.slice o3 ix.length c3).ownBlock = some k → X k := ⟨_, HS.out.more hb3, fun k hk => .inr (World.ownsRow.lt hrow k hk)⟩
        have HXS := hid hxs
        have HXR := hid hxr
        clear hxs hxr
        have HG3 := hid hg3
        have HZ := hid hz
        clear hrow hb3 hg3 hz h00 HS HD H23
        rcases Nat.eq_zero_or_pos ks.length with h0 | h0
        all_goals
          first
          | (have hi0 : ix.length = 0 := HZ.out.2 h0
             rw [hi0]
             rw [h0]
             have hfin : True := trivial)
          | (have hi1 : 0 < ix.length := by have := HZ.out; omega
             obtain ⟨g3, rfl⟩ := HG3.out hi1
             have hx : ix[0]? = some (ix[0]'hi1) := List.getElem?_eq_getElem hi1
             obtain ⟨a0, a1, a2⟩ := ent_at HROW.out 0 _ hx
             obtain ⟨f1, f2⟩ := HIX.out.first _ hx
             rw [f2] at a0
             rw [f1] at a1
             simp only [Nat.zero_mul, Nat.zero_add] at a0 a1
             have n1 : ((ix.length : Int) == 0) = false := by rw [beq_eq_false_iff_ne]; omega
             have n2 : ((ks.length : Int) == 0) = false := by rw [beq_eq_false_iff_ne]; omega
             have n1' : decide ((ix.length : Int) = 0) = false := decide_eq_false (by omega)
             have n2' : decide ((ks.length : Int) = 0) = false := decide_eq_false (by omega)
             have n3 : (0 : Int) < (ix.length : Int) := by omega
             have n4 : ¬ (ix.length : Int) = 0 := by omega
             have n5' : ¬ (ks.length : Int) = 0 := by omega)
          go_wp2_with fail
          go_loopg [10] ix.length (fun kx s10 wq => ∃ j : Nat, j ≤ ix.length ∧ ix.length - j ≤ kx ∧ s10 = .int .i64 ((j : Int) + 1) ∧ Hid (Below w3.heap.size w3 wq))
          case atStart => exact ⟨0, by omega, by omega, rfl, Below.refl _ _⟩
          case round =>
            obtain ⟨j, hj, hjx, rfl, HB⟩ := hrel
            by_cases hlt2 : j + 1 < ix.length
            · first
              | (exfalso; omega)
              | skip
              all_goals
                clear n1 n2 n1' n2' n3 n4 n5' a0 a1 a2 f1 f2 hx h0 hi1
                have hlt2' : (j : Int) + 1 < (ix.length : Int) := by omega
                have hj0 : (0 : Int) ≤ (j : Int) + 1 := by omega
                have hj1 : ¬ (j : Int) + 1 < 0 := by omega
                have hj2 : ¬ (ix.length : Int) ≤ (j : Int) + 1 := by omega
                have hj3 : (0 : Int) ≤ (j : Int) := by omega
                have hj6 : (j : Int) ≤ 60 := by omega
                have hj7 : IntKind.i64.wrap ((j : Int) + 1 - 1) = (j : Int) := by rw [IntWalk.i64_in _ (by omega)]; omega
                have hj8 : IntKind.i64.wrap (j : Int) = (j : Int) := IntWalk.i64_in _ (by omega)
                have hj4 : ¬ (j : Int) < 0 := by omega
                have hj5 : ¬ (ix.length : Int) ≤ (j : Int) := by omega
                have hlt3 : (j : Int) < (ix.length : Int) := by omega
                have hxa : ix[j]? = some (ix[j]'(by omega)) := List.getElem?_eq_getElem (by omega)
                have hxb : ix[j + 1]? = some (ix[j + 1]'hlt2) := List.getElem?_eq_getElem hlt2
                have hrw := ownsRow_kept (w' := wr) HROW.out (fun q hq => HB.out.block q (World.ownsRow.lt HROW.out q hq).2)
                obtain ⟨c0, c1, _⟩ := ent_at hrw j _ hxa
                obtain ⟨d0, d1, _⟩ := ent_at hrw (j + 1) _ hxb
                obtain ⟨m1, m2⟩ := HIX.out.rise j _ _ hxa hxb
                obtain ⟨m3, m4⟩ := HIX.out.low _ (List.mem_of_getElem? hxb)
                clear hxa hxb hrw
                generalize (ix[j]'(by omega)).base = Xa at *
                generalize (ix[j]'(by omega)).at_ = Ya at *
                generalize (ix[j + 1]'hlt2).base = Xb at *
                generalize (ix[j + 1]'hlt2).at_ = Yb at *
                have y1 : (Ya : Int) + 256 ≤ 1000000000 := by omega
                have y2 : (0 : Int) ≤ (Ya : Int) := by omega
                have y3 : (Yb : Int) ≤ 1000000000 := by omega
                have t1 : ¬ (Xb : Int) ≤ (Xa : Int) := by omega
                have t2 : ¬ (Yb : Int) < (Ya : Int) + 256 := by omega
                have t1' : decide ((Xb : Int) ≤ (Xa : Int)) = false := decide_eq_false t1
                have t2' : decide ((Yb : Int) < (Ya : Int) + 256) = false := decide_eq_false t2
                go_wp2_with fail
                go_quiet (fail)
                have hyw : IntKind.i64.wrap ((Ya : Int) + 256) = (Ya : Int) + 256 := IntWalk.i64_in _ (by omega)
                clear hj0 hj3 hj6 hj7 hj8 hlt3 y1 y2 y3 c0 c1 d0 d1 m1 m2 m3 m4
                go_wp2_with fail
                go_roundg (ix.length - (j + 1))
                case measure => omega
                case rel => exact ⟨j + 1, by omega, Nat.le_refl _, by go_num, by first | exact HB | exact below_drewN HB.out _⟩
            · have hlt2' : ¬ (j : Int) + 1 < (ix.length : Int) := by omega
              have hlt3' : ¬ (j : Int) + 1 < 0 := by omega
              have HS4 := hid (HXS.out.under HB.out)
              have H10 : Hid (Calls Try.prog 10 #[.pointer (some ⟨a, 0, none⟩), .string ⟨#[115]⟩, .int .i64 3] wr _) := HS4.out.again
              have HRW : Hid (∀ w', KX X wr w' → w'.ownsRow _ 53 3 _ ix.length (flatE ix)) := fun w' hk => ownsRow_kept (ownsRow_kept (w' := wr) HROW.out (fun q hq => HB.out.block q (World.ownsRow.lt HROW.out q hq).2)) (fun q hq => hk q (HXR.out q hq))
              go_wp2_with fail
              refine H10.out.mono ?_
              rintro e w5 ⟨q2, Y, rfl, hs5, hk5, hz5, hn5⟩
              have HS5 := hid hs5
              have HN5 := hid hn5
              have HR5 := hid (HRW.out _ hk5)
              clear hs5 hn5 hk5
              go_wp2_with fail
              have H23 : Hid (Calls Try.prog 23 #[.pointer (some ⟨q2, 0, none⟩)] w5 fun e w' => ∃ rv, e = .returned rv ∧ w'.ownsRow w5.heap.size 53 3 rv (idxM ⟨3, 0, 0⟩ [] bs).length (flatE (idxM ⟨3, 0, 0⟩ [] bs)) ∧ Below w5.heap.size w5 w') := HS5.out.index
              rw [← HI.out] at H23
              refine H23.out.mono ?_
              rintro e w6 ⟨rv6, rfl, hrow6, hb6⟩
              have H24 := hid (sameIndex_yes hrow6 (ownsRow_kept (w' := w6) HR5.out (fun q hq => hb6.block q (World.ownsRow.lt HR5.out q hq).2)) (by omega))
              have HB6 := hid hb6
              clear hrow6 hb6 H23
              try rw [HZ.out.2 h0] at H24
              go_wp2_with fail
              refine H24.out.mono ?_
              rintro e w7 ⟨rfl, hb7⟩
              have HB7 := hid (HB6.out.trans (hb7.mono HB6.out.size))
              have HS7 := hid (HS5.out.under HB7.out)
              clear hb7 H24 HS5
              have HN1 : Hid (Calls Try.prog 12 #[.pointer (some ⟨q2, 0, none⟩)] w7 fun e w' => e = .returned (.int .i64 ((endM ⟨3, 0, 0⟩ bs).base : Int)) ∧ w' = w7) := HS7.out.next
              go_wp2_with fail
              refine HN1.out.mono ?_
              rintro e w8 ⟨rfl, rfl⟩
              go_wp2_with fail
              refine (HN5.out _ HB7.out).mono ?_
              rintro e w9 ⟨rfl, rfl⟩
              go_wp2_with fail
              go_ret
              exact ⟨rfl, HS7.out.below⟩
end Go.Proofs.Ytlgaianlkbaedaa

