/- SegmentSurvives. -/
import Derived.Test.YtlgaianlkbaedaaHL6
namespace Go.Proofs.Ytlgaianlkbaedaa
open Go.RowKit Go.Maps Go.Sort
set_option maxRecDepth 100000
set_option linter.unusedSimpArgs false
set_option linter.unusedVariables false

/-- What the loop holds: the batches written are the row's; so many were safe at the last Sync. -/
structure Kept (w W : World) (q a : Nat) (k : Nat) (v : Value) (sy : Int) (bs : List Bat) (sf : Nat) : Prop where
  here : Here w W q a 0 1000000 bs sf v
  len : bs.length = k
  small : Smalls bs
  safe : ∃ j, j ≤ bs.length ∧ sy = ((endM ⟨0, 0, 0⟩ (bs.take j)).base : Int) ∧ (fileL (bs.take j)).length ≤ sf
/-- One more in the row. -/
theorem push_here {w W W' w' : World} {q a base size : Nat} {bs bs' : List Bat} {sf : Nat} {v v' : Value} {X : Nat → Prop} {ps : List (Bat × Value)} {b : Bat} {rv : Value} (hs : SO w W X q a base size bs' sf) (hr : RX W w.heap.size X v ps) (hps : ps.map Prod.fst = bs) (hb' : bs' = bs ++ [b]) (hW : Below W.heap.size W W') (hrv : Recs W rv b.recs) (ho : ∀ z, rv.ownBlock = some z → w.heap.size ≤ z ∧ z < W.heap.size ∧ v.ownBlock ≠ some z ∧ X z) (hown : w'.ownsRow w.heap.size 34 6 v' (ps.length + 1) (flatB ps ++ bcells b rv)) (hg : W'.grownBy w' v.ownBlock) (hat : v'.ownBlock = v.ownBlock ∨ v'.ownBlock = some W'.heap.size) : Here w w' q a base size bs' sf v' := by
  have hz := hW.size
  refine ⟨_, _, (hs.under hW).grown (hr.under hW) (Nat.le_refl _) hg, (hr.under hW).push b rv (hrv.under hW) (fun z hz' => ?_) hown hg hat, by rw [List.map_append, hps, hb']; rfl⟩
  have := ho z hz'
  exact ⟨this.1, by omega, this.2.2.1, this.2.2.2⟩
set_option maxHeartbeats 3000000 in
theorem survives_walk (w : World) (oa : Option Addr) (ks : List Int) (cap : Nat) (hk : Nums w oa ks) (c1 : Int) (hc1 : -9223372036854775808 ≤ c1 ∧ c1 ≤ 9223372036854775807) (oa2 : Option Addr) (ks2 : List Int) (cap2 : Nat) (hk2' : Nums w oa2 ks2) :
    Calls Try.prog 3 #[.slice oa ks.length cap, .int .i64 c1, .slice oa2 ks2.length cap2] w fun e w' => e = .returned (.bool true) ∧ Below w.heap.size w w' := by
  have hlen := hk.len
  unfold maxLen at hlen
  have HK := hid hk
  have HK2 := hid hk2'
  have HC1 := hid hc1
  clear hk hk2' hc1
  obtain ⟨m, hm⟩ : ∃ m, m = min ks.length 40 := ⟨_, rfl⟩
  have HMM := hid hm
  have hmm : min (ks.length : Int) 40 = (m : Int) := by omega
  have hmi : m ≤ 40 ∧ m ≤ ks.length := by omega
  clear hm
  go_enter Try.func3, Try.ntmps3
  go_wp2_with (go_at_call 8; refine (shown_any w).mono ?_; rintro e w0 ⟨rfl, hb0⟩; have HB0 := hid hb0; clear hb0)
  have H9 : Hid (Calls Try.prog 9 #[.int .i64 1000000] w0 fun e w' => e = .returned (.tuple #[.pointer (some ⟨w0.heap.size, 0, none⟩), .int .i64 0]) ∧ DiskA w' (fun k => k = w0.heap.size) w0.heap.size 1000000 [] ∧ Below w0.heap.size w0 w') := newA 1000000 w0 (by decide) (by decide)
  refine H9.out.mono ?_
  rintro e w1 ⟨rfl, hD1, hb1⟩
  have H10 : Hid (Calls Try.prog 10 #[.pointer (some ⟨w0.heap.size, 0, none⟩), .string ⟨#[115]⟩, .int .i64 0] w1 _) := so_new 0 hD1 (HB0.out.trans (hb1.mono HB0.out.size)) (fun k hk => by rw [hk]; exact HB0.out.size) (by decide)
  clear H9 hD1 hb1
  generalize w0.heap.size = a at *
  go_wp2_with fail
  refine H10.out.mono ?_
  rintro e w2 ⟨q, rfl, hSO, _⟩
  have HS0 := hid hSO
  clear hSO H10
  go_wp2_with fail
  go_loopg [12, 14, 15] ks.length (fun kx s12 s14 s15 wr => ∃ (k : Nat) (sy : Int) (bs : List Bat) (sf : Nat), k ≤ m ∧ ks.length - k ≤ kx ∧ s14 = .int .i64 sy ∧ s15 = .int .i64 (k : Int) ∧ Hid (Kept w wr q a k s12 sy bs sf))
  case atStart => exact ⟨0, 0, [], 0, by omega, by omega, rfl, rfl, ⟨⟨_, [], HS0.out, RX.nil _ _ _, rfl⟩, rfl, Smalls.nil, ⟨0, Nat.le_refl _, rfl, Nat.le_refl _⟩⟩⟩
  case round =>
    obtain ⟨k, sy, bs, sf, hk1, hkx, rfl, rfl, HD⟩ := hrel
    clear HS0
    by_cases hlt : k < m
    · have hlt' : (k : Int) < (m : Int) := by omega
      have hltk : k < ks.length := by omega
      have hltk' : (k : Int) < (ks.length : Int) := by omega
      have hbl := HD.out.len
      have HSM := hid HD.out.small
      have hend := HD.out.small.ends 0
      have hfile := HD.out.small.file
      rw [hbl] at hend hfile
      obtain ⟨X, ps, hxs, hxr, hps⟩ := HD.out.here
      have HXS := hid hxs
      have HXR := hid hxr
      have HPS := hid hps
      have HWB := hid hxs.below
      have HV3 : Hid (∀ z, u12.ownBlock = some z → z < wr.heap.size) := fun z hz => (World.ownsRow.lt hxr.bl.row z hz).2
      have HPL : Hid (ps.length = k) := hid (by rw [← hbl, ← hps, List.length_map])
      clear hps hxs hxr
      obtain ⟨b, off, rfl, hcell, hr1, hr2⟩ := HK.out.get HXS.out.below k hltk
      obtain ⟨r, n, hrn, hr0, hr30, hn1, hn30, hpick⟩ := pick_one ks[k] 20 hr1 hr2 (by decide) (by decide) 20 rfl
      have HP := hid hpick
      have hlen2 := smallB_len (endM ⟨0, 0, 0⟩ bs).base n hn1 (by omega) (by omega)
      have H12 : Hid (∀ W, Below wr.heap.size wr W → Calls Try.prog 12 #[.pointer (some ⟨q, 0, none⟩)] W fun e w' => e = .returned (.int .i64 ((endM ⟨0, 0, 0⟩ bs).base : Int)) ∧ w' = W) := fun W hb => (HXS.out.under hb).next
      have H11 : Hid (∀ W, Calls Try.prog 11 #[.int .i64 ((endM ⟨0, 0, 0⟩ bs).base : Int), .int .i64 (n : Int)] W fun e w' => ∃ rv, e = .returned (.agg #[.int .i64 ((endM ⟨0, 0, 0⟩ bs).base : Int), .int .i64 1, .int .i64 0, .int .i64 0, .int .i64 0, rv]) ∧ Recs w' rv (List.replicate n smallR) ∧ (∀ k, rv.ownBlock = some k → W.heap.size ≤ k) ∧ Below W.heap.size W w') := fun W => small_any W _ n (by omega)
      have H14 : Hid (∀ W X rvb, SO w W X q a 0 1000000 bs sf → Recs W rvb (List.replicate n smallR) → Calls Try.prog 14 #[.pointer (some ⟨q, 0, none⟩), .agg #[.int .i64 ((endM ⟨0, 0, 0⟩ bs).base : Int), .int .i64 1, .int .i64 0, .int .i64 0, .int .i64 0, rvb]] W fun e w' => e = .returned (.int .i64 0) ∧ SO w w' X q a 0 1000000 (bs ++ [smallB (endM ⟨0, 0, 0⟩ bs).base n]) sf ∧ KX X W w' ∧ W.heap.size ≤ w'.heap.size) := fun W X rvb hs hr => hs.append _ rfl n hn1 (by omega) (by omega) (by omega) rvb hr (by omega)
      have HSM2 := hid (HSM.out.push (endM ⟨0, 0, 0⟩ bs).base n hn1 (by omega) (by omega))
      have HNB : Hid (smallB (endM ⟨0, 0, 0⟩ bs).base n = ⟨((endM ⟨0, 0, 0⟩ bs).base : Int), 1, 0, 0, 0, List.replicate n smallR⟩) := rfl
      have hwr : IntKind.i64.wrap (n : Int) = (n : Int) := IntWalk.i64_in _ (by omega)
      have hbb : (endM ⟨0, 0, 0⟩ bs).base ≤ 4000 := by omega
      obtain ⟨r1, hr1', hp1⟩ := pick_nat c1 m HC1.out (by omega) (by omega) (m : Int) rfl
      have HP1 := hid hp1
      have HSAFE := hid HD.out.safe
      clear hend hfile hlen2 hpick HD hp1
      have HCL0 : Hid (∀ W, Below w.heap.size w W → W.cell? ⟨b, off + k, none⟩ = some (.int .i64 ks[k])) := fun W hb => HK.out.cell hb k hltk
      generalize smallB (endM ⟨0, 0, 0⟩ bs).base n = NB at *
      generalize (endM ⟨0, 0, 0⟩ bs).base = NX at *
      generalize ks[k] = c at *
      have hblt : b < wr.heap.size := World.block_lt_of_cell? _ _ hcell
      have hbne : ¬ b = wr.heap.size := by omega
      have hbne' : ¬ wr.heap.size = b := by omega
      have HCL : Hid (∀ W, Below w.heap.size w W → W.cell? ⟨b, off + k, none⟩ = some (.int .i64 c)) := HCL0
      go_wp2_with fail
      go_region_held3 (fun w' => w'.cell? ⟨b, off + k, none⟩ = some (.int .i64 c)) (go_keep)
        (first
        | (go_at_call 12; refine (H12.out _ (by repeat (first | exact Below.refl _ _ | apply Below.drew | refine Below.alloc ?_ (by simp) _))).mono ?_; rintro e w4 ⟨rfl, rfl⟩)
        | (go_at_call 13; refine (HP.out _).mono ?_; rintro e w4 ⟨rfl, rfl⟩)
        | (go_at_call 11; refine (H11.out _).mono ?_; rintro e w5 ⟨rvb, rfl, hr5, ho5, hb5⟩; obtain ⟨rba, rbc, hrvb, _⟩ := hr5.shape; rw [List.length_replicate] at hrvb; subst hrvb; have HX5 : Hid (Boxed wr w5 (.cells #[.int .i64 0, .int .i64 0, .int .i64 0, .int .i64 0, .int .i64 0, .slice none 0 0] 34)) := (by first | exact (Boxed.laid wr _).next hb5 | exact ((Boxed.laid wr _).next (Below.refl _ _).drew).next hb5); have HB5 : Hid (Below wr.heap.size wr w5) := HX5.out.below; obtain ⟨p0, p1, p2, p3, p4, p5⟩ := six HX5.out; obtain ⟨f0, f1, f2, f3, f4, f5⟩ := six_frozen HX5.out; have HO6 : Hid (∀ z, (Value.slice rba n rbc).ownBlock = some z → z ≠ wr.heap.size) := (fun z hz => by have h := ho5 z hz; simp at h; omega); have HR5 := hid hr5; have HO5 : Hid (∀ z, (Value.slice rba n rbc).ownBlock = some z → wr.heap.size ≤ z) := (fun z hz => by have h := ho5 z hz; simp at h; omega); have hc5 := HCL.out w5 (HWB.out.trans (HB5.out.mono HWB.out.size)); clear hr5 ho5 hb5)
        | (go_at_call 11; refine (H11.out _).mono ?_; rintro e w5 ⟨rvb, rfl, hr5, ho5, hb5⟩; obtain ⟨rba, rbc, hrvb, _⟩ := hr5.shape; rw [List.length_replicate] at hrvb; subst hrvb; have HB5 : Hid (Below wr.heap.size wr w5) := (by first | exact hb5 | exact (Below.refl _ _).drew.trans hb5); have HR5 := hid hr5; have HO5 : Hid (∀ z, (Value.slice rba n rbc).ownBlock = some z → wr.heap.size ≤ z) := (fun z hz => by have h := ho5 z hz; simp at h; omega); have hc5 := HCL.out w5 (HWB.out.trans (HB5.out.mono HWB.out.size)); clear hr5 ho5 hb5)
        | fail)
      all_goals
        go_wp2_with fail
        first
        | (have HBX := hid (HX5.out.six (.int .i64 (NX : Int)) (.int .i64 1) (.int .i64 0) (.int .i64 0) (.int .i64 0) (.slice rba n rbc))
           have hrw := HR5.out.off (fun z hz => six_keep2 w5 wr.heap.size z (.int .i64 (NX : Int)) (.int .i64 1) (.int .i64 0) (.int .i64 0) (.int .i64 0) (.slice rba n rbc) (HO6.out z hz)) (by rw [six_size]; exact Nat.le_refl _)
           clear p0 p1 p2 p3 p4 p5 f0 f1 f2 f3 f4 f5 HX5 hc5
           generalize ((((((w5.setCell ⟨wr.heap.size, 0, none⟩ (.int .i64 (NX : Int))).setCell ⟨wr.heap.size, 1, none⟩ (.int .i64 1)).setCell ⟨wr.heap.size, 2, none⟩ (.int .i64 0)).setCell ⟨wr.heap.size, 3, none⟩ (.int .i64 0)).setCell ⟨wr.heap.size, 4, none⟩ (.int .i64 0)).setCell ⟨wr.heap.size, 5, none⟩ (.slice rba n rbc)) = W at *
           obtain ⟨p, hp⟩ : ∃ p, p = wr.heap.size := ⟨_, rfl⟩
           have HQ : Hid (Below wr.heap.size wr W ∧ W.heap[p]? = some (.cells #[.int .i64 (NX : Int), .int .i64 1, .int .i64 0, .int .i64 0, .int .i64 0, .slice rba n rbc] 34) ∧ Recs W (.slice rba n rbc) (List.replicate n smallR) ∧ wr.heap.size ≤ p ∧ p < W.heap.size) := ⟨HBX.out.below, by rw [hp]; exact HBX.out.box, hrw, by omega, by rw [hp]; exact HBX.out.lt⟩
           rw [← hp]
           clear HBX hrw hp)
        | (have hBX := Boxed.laid w5 (.cells #[.int .i64 (NX : Int), .int .i64 1, .int .i64 0, .int .i64 0, .int .i64 0, .slice rba n rbc] 34)
           have hrw := HR5.out.under hBX.below
           have hbw : Below wr.heap.size wr (w5.alloc (.cells #[.int .i64 (NX : Int), .int .i64 1, .int .i64 0, .int .i64 0, .int .i64 0, .slice rba n rbc] 34)) := HB5.out.alloc HB5.out.size _
           have hs5 := HB5.out.size
           generalize w5.alloc (.cells #[.int .i64 (NX : Int), .int .i64 1, .int .i64 0, .int .i64 0, .int .i64 0, .slice rba n rbc] 34) = W at *
           obtain ⟨p, hp⟩ : ∃ p, p = w5.heap.size := ⟨_, rfl⟩
           have HQ : Hid (Below wr.heap.size wr W ∧ W.heap[p]? = some (.cells #[.int .i64 (NX : Int), .int .i64 1, .int .i64 0, .int .i64 0, .int .i64 0, .slice rba n rbc] 34) ∧ Recs W (.slice rba n rbc) (List.replicate n smallR) ∧ wr.heap.size ≤ p ∧ p < W.heap.size) := ⟨hbw, by rw [hp]; exact hBX.box, hrw, by omega, by rw [hp]; exact hBX.lt⟩
           rw [← hp]
           clear hBX hrw hbw hs5 hp hc5)
        clear HB5 HR5 H11 H12 HP
        obtain ⟨Y, hsY, hrY, hY⟩ : ∃ Y : Nat → Prop, SO w W Y q a 0 1000000 bs sf ∧ RX W w.heap.size Y u12 ps ∧ ∀ z, wr.heap.size ≤ z → z < W.heap.size → Y z := ⟨_, HXS.out.more HQ.out.1, (HXR.out.under HQ.out.1).wide (fun z hz => .inl hz), fun z h1 h2 => .inr ⟨h1, h2⟩⟩
        have H14' := hid (H14.out W Y _ hsY HQ.out.2.2.1)
        have HRY := hid hrY
        have HY := hid hY
        have hww3 : w.heap.size ≤ wr.heap.size := HWB.out.size
        clear hsY hrY hY H14
        refine H14'.out.mono ?_
        rintro e w6 ⟨rfl, hs6, hk6, hz6⟩
        have HS6 := hid hs6
        have HR6 := hid (HRY.out.kept hk6 hz6)
        have hne : List.replicate n smallR ≠ [] := fun e => by have := congrArg List.length e; simp at this; omega
        have HRB : Hid (Recs w6 (.slice rba n rbc) (List.replicate n smallR)) := HQ.out.2.2.1.off (fun z hz => hk6 z (HY.out z (HO5.out z hz) (HQ.out.2.2.1.lt hne z hz))) hz6
        have hbx := (hk6 p (HY.out p HQ.out.2.2.2.1 HQ.out.2.2.2.2)).trans HQ.out.2.1
        have HRBO : Hid (∀ z, (Value.slice rba n rbc).ownBlock = some z → w.heap.size ≤ z ∧ z < w6.heap.size ∧ u12.ownBlock ≠ some z ∧ Y z) := fun z hz => ⟨by have := HO5.out z hz; omega, HRB.out.lt hne z hz, fun e => by have := HV3.out z e; have := HO5.out z hz; omega, HY.out z (HO5.out z hz) (HQ.out.2.2.1.lt hne z hz)⟩
        have hs36 : wr.heap.size ≤ w6.heap.size := by have := HQ.out.1.size; omega
        clear hk6 hz6 H14' HRY HQ hne HO5 hs6
        have z0 := cell_at hbx (j := 0) rfl
        have z1 := cell_at hbx (j := 1) rfl
        have z2 := cell_at hbx (j := 2) rfl
        have z3 := cell_at hbx (j := 3) rfl
        have z4 := cell_at hbx (j := 4) rfl
        have z5 := cell_at hbx (j := 5) rfl
        obtain ⟨i0, hi0, hi1, hi2, hi3⟩ := info34
        have hps60 : ps.length ≤ 60 := by have := HPL.out; omega
        have hw7 : w.heap.size ≤ w6.heap.size := by omega
        have HROW : Hid ((w6.alloc (.cells #[.int .i64 (NX : Int), .int .i64 1, .int .i64 0, .int .i64 0, .int .i64 0, .slice rba n rbc] 34)).ownsRow w.heap.size 34 6 u12 ps.length (flatB ps)) := ownsRow_kept HR6.out.bl.row (fun z hz => Below.heap_alloc _ _ _ (World.ownsRow.lt HR6.out.bl.row z hz).2)
        have HNW1 : Hid (∀ j u, ([.int .i64 (NX : Int), .int .i64 1, .int .i64 0, .int .i64 0, .int .i64 0, .slice rba n rbc] : List Value)[j]? = some u → (w6.alloc (.cells #[.int .i64 (NX : Int), .int .i64 1, .int .i64 0, .int .i64 0, .int .i64 0, .slice rba n rbc] 34)).cell? ((⟨w6.heap.size, 0, none⟩ : Addr).add j) = some u) := news_cells w6 _ _ _ _ _ _ 34
        have HON1 : Hid (∀ u ∈ ([.int .i64 (NX : Int), .int .i64 1, .int .i64 0, .int .i64 0, .int .i64 0, .slice rba n rbc] : List Value), u.oneCell' = true) := news_one _ _ _ _ _ _ _ _
        have HST : Hid (∀ v2 w8, w8.ownsRow w.heap.size 34 6 v2 (ps.length + 1) (flatB ps ++ [.int .i64 (NX : Int), .int .i64 1, .int .i64 0, .int .i64 0, .int .i64 0, .slice rba n rbc]) → (w6.alloc (.cells #[.int .i64 (NX : Int), .int .i64 1, .int .i64 0, .int .i64 0, .int .i64 0, .slice rba n rbc] 34)).grownBy w8 u12.ownBlock → (v2.ownBlock = u12.ownBlock ∨ v2.ownBlock = some (w6.alloc (.cells #[.int .i64 (NX : Int), .int .i64 1, .int .i64 0, .int .i64 0, .int .i64 0, .slice rba n rbc] 34)).heap.size) → Here w w8 q a 0 1000000 (bs ++ [NB]) sf v2) := fun v2 w8 h1 h2 h3 => push_here HS6.out HR6.out HPS.out rfl ((Below.refl _ _).alloc (Nat.le_refl _) (.cells #[.int .i64 (NX : Int), .int .i64 1, .int .i64 0, .int .i64 0, .int .i64 0, .slice rba n rbc] 34)) (b := NB) (rv := .slice rba n rbc) (by rw [HNB.out]; exact HRB.out) HRBO.out (by rw [HNB.out]; exact h1) h2 h3
        clear hbx HRB
        generalize flatB ps = F at *
        go_wp2_with (at_builtin; refine wpList_append_own_at _ rfl _ _ 31 rfl w.heap.size 34 i0 _ 6 64 Try.underlying31 hi0 hi1 hi2 hi3 rfl (by decide) _ ps.length F rfl HROW.out ⟨w6.heap.size, 0, none⟩ 1 1 [.int .i64 (NX : Int), .int .i64 1, .int .i64 0, .int .i64 0, .int .i64 0, .slice rba n rbc] rfl rfl HNW1.out HON1.out (by unfold maxLen; omega) (by omega) (by simp; omega) ?_; intro v2 w8 hown8 hg8 _ hat8; have HH8 := hid (HST.out v2 w8 hown8 hg8 hat8); clear hown8 hg8 hat8 z0 z1 z2 z3 z4 z5)
        clear HST HROW HNW1 HON1 HS6 HR6
        obtain ⟨bs2, hbs2⟩ : ∃ bs2, bs2 = bs ++ [NB] := ⟨_, rfl⟩
        have HLB : Hid (bs2.length = k + 1) := hid (by rw [hbs2, List.length_append, hbl]; rfl)
        have HSM3 : Hid (Smalls bs2) := by rw [hbs2]; exact HSM2.out
        have HSAFE2 : Hid (∃ j, j ≤ bs2.length ∧ sy = ((endM ⟨0, 0, 0⟩ (bs2.take j)).base : Int) ∧ (fileL (bs2.take j)).length ≤ sf) := by
          obtain ⟨j, j1, j2, j3⟩ := HSAFE.out
          have e : (bs ++ [NB]).take j = bs.take j := List.take_append_of_le_length j1
          exact ⟨j, by rw [hbs2]; simp; omega, by rw [hbs2, e]; exact j2, by rw [hbs2, e]; exact j3⟩
        rw [← hbs2] at HH8
        clear hbs2 HSM2 HSAFE
        refine (HP1.out _).mono ?_
        rintro e w9 ⟨rfl, rfl⟩
        by_cases hkr : k = r1
        · subst hkr
          go_wp2_with fail
          refine HH8.out.sync.mono ?_
          rintro e w10 ⟨rfl, hh10⟩
          have HH10 := hid hh10
          have HN10 := hid hh10.so.next
          clear hh10
          go_wp2_with fail
          refine HN10.out.mono ?_
          rintro e w11 ⟨rfl, rfl⟩
          go_wp2_with fail
          go_roundg (ks.length - (k + 1))
          case measure => omega
          case rel => exact ⟨k + 1, _, bs2, _, by omega, Nat.le_refl _, rfl, by go_num, ⟨HH10.out, HLB.out, HSM3.out, ⟨bs2.length, Nat.le_refl _, by rw [List.take_length], by rw [List.take_length]; exact Nat.le_refl _⟩⟩⟩
        · have hkr' : ¬ (k : Int) = (r1 : Int) := by omega
          have hkr2 : ((k : Int) == (r1 : Int)) = false := by rw [beq_eq_false_iff_ne]; exact hkr'
          go_wp2_with fail
          go_roundg (ks.length - (k + 1))
          case measure => omega
          case rel => exact ⟨k + 1, sy, bs2, sf, by omega, Nat.le_refl _, rfl, by go_num, ⟨HH8.out, HLB.out, HSM3.out, HSAFE2.out⟩⟩
    · have hlt' : ¬ (k : Int) < (m : Int) := by omega
      have hbl := HD.out.len
      have hfile := HD.out.small.file
      have hend := HD.out.small.ends 0
      obtain ⟨X, ps, hxs, hxr, hps⟩ := HD.out.here
      obtain ⟨j, j1, j2, j3⟩ := HD.out.safe
      have hpl0 : ps.length = bs.length := by rw [← hps, List.length_map]
      have HPL := hid hpl0
      have HPS := hid hps
      have HXR := hid hxr
      have HJ := hid (And.intro j1 (And.intro j2 j3))
      obtain ⟨o, c, rfl, hsh⟩ := hxr.bl.shape3
      have H16 := hid (crash_open hxs oa2 ks2 cap2 ((HK2.out.under hxs.below).at_) HK2.out.len (fun hne b off e => .inl (HK2.out.lt hne b off e)))
      clear hxs hxr hps hpl0 j1 j2 j3 HD
      rw [hbl] at hfile hend
      go_wp2_with fail
      refine H16.out.mono ?_
      rintro e w3 ⟨rfl, hk3, hz3, n, rest, n1, n2, hop⟩
      have HR3 := hid (HXR.out.kept hk3 hz3)
      have hjn : j ≤ n := n2 j HJ.out.2.2 HJ.out.1
      have H10 : Hid (Calls Try.prog 10 #[.pointer (some ⟨a, 0, none⟩), .string ⟨#[115]⟩, .int .i64 0] w3 _) := hop w3 (Below.refl _ _)
      clear hk3 hz3 n2 hop H16 HXR
      have hmono := (endM_mono bs ⟨0, 0, 0⟩ j n hjn).1
      have hsyn : ¬ ((endM ⟨0, 0, 0⟩ (bs.take n)).base : Int) < sy := by have := HJ.out.2.1; omega
      go_wp2_with fail
      refine H10.out.mono ?_
      rintro e w4 ⟨q2, rfl, hs4, hk4, hz4⟩
      have HS4 := hid hs4
      have HR4 := hid (HR3.out.kept hk4 hz4)
      have HN4 : Hid (∀ W, Below w4.heap.size w4 W → Calls Try.prog 12 #[.pointer (some ⟨q2, 0, none⟩)] W fun e w' => e = .returned (.int .i64 ((endM ⟨0, 0, 0⟩ (bs.take n)).base : Int)) ∧ w' = W) := fun W hb => (HS4.out.under hb).next
      have H17 : Hid (∀ W, Below w4.heap.size w4 W → Calls Try.prog 17 #[.pointer (some ⟨q2, 0, none⟩)] W fun e w' => e = .returned (.int .i64 ((endM ⟨0, 0, 0⟩ (bs.take n)).base : Int)) ∧ Below W.heap.size W w') := fun W hb => (HS4.out.under hb).safeAll rfl
      have H18 : Hid (∀ W, Below w4.heap.size w4 W → Calls Try.prog 18 #[.pointer (some ⟨q2, 0, none⟩), .int .i64 0, .int .i64 1000000] W fun e w' => ∃ ps3 rv3, e = .returned rv3 ∧ BL w' W.heap.size rv3 ps3 ∧ ps3.map Prod.fst = bs.take n ∧ Below W.heap.size W w') := fun W hb => (HS4.out.under hb).readAll 1000000 (by have := fileL_take_le bs n; omega) 0 rfl
      clear hs4 hk4 hz4 H10 HR3 hmono HJ
      generalize (endM ⟨0, 0, 0⟩ (bs.take n)).base = NT at *
      go_wp2_with fail
      refine (HN4.out _ (by repeat (first | exact Below.refl _ _ | apply Below.drew))).mono ?_
      rintro e w5 ⟨rfl, rfl⟩
      go_wp2_with fail
      refine (H17.out _ (by repeat (first | exact Below.refl _ _ | apply Below.drew))).mono ?_
      rintro e w6 ⟨rfl, hb6⟩
      have HB6 := hid hb6
      clear hb6
      go_wp2_with fail
      refine (HN4.out _ (by first | exact HB6.out | exact (Below.refl _ _).drew.trans HB6.out)).mono ?_
      rintro e w7 ⟨rfl, rfl⟩
      go_wp2_with fail
      refine (H18.out _ HB6.out).mono ?_
      rintro e w8 ⟨ps3, rv3, rfl, hbl8, hm8, hb8⟩
      have HL8 := hid hbl8
      have HB8 := hid (HB6.out.trans (hb8.mono HB6.out.size))
      have HR8 := hid (HR4.out.under HB8.out)
      have hl3 : ps3.length ≤ ps.length := by have h7 := congrArg List.length hm8; rw [List.length_map, List.length_take] at h7; have := HPL.out; omega
      have hps5 : ps.length ≤ 60 := by have := HPL.out; omega
      have HM8 : Hid (ps3.map Prod.fst = (ps.take ps3.length).map Prod.fst) := hid (by
        have h7 := congrArg List.length hm8
        rw [List.length_map, List.length_take, Nat.min_eq_left n1] at h7
        rw [List.map_take, HPS.out, h7, hm8])
      obtain ⟨o3, c3, rfl⟩ := hbl8.shape
      have HBW := hid (HS4.out.below.trans (HB8.out.mono HS4.out.below.size))
      have hcap := HR8.out.bl.cap
      clear hbl8 hm8 hb8 HN4 H17 H18 HR4 HB6
      have H19 := hid (same_yes HL8.out (HR8.out.take ps3.length hl3).bl HM8.out (by omega))
      rcases hsh with ⟨rfl, hl0, rfl⟩ | ⟨g, rfl⟩
      · obtain rfl : ps = [] := List.eq_nil_of_length_eq_zero hl0
        obtain rfl : ps3 = [] := List.eq_nil_of_length_eq_zero (by simpa using hl3)
        have H19' : Hid (Calls Try.prog 19 #[.slice o3 0 c3, .slice none 0 0] w8 fun e w' => e = .returned (.bool true) ∧ Below w8.heap.size w8 w') := H19.out
        clear hl0 hl3 hps5 hcap
        go_wp2_with fail
        refine H19'.out.mono ?_
        rintro e w9 ⟨rfl, hb9⟩
        have HB9 := hid (HBW.out.trans (hb9.mono HBW.out.size))
        clear hb9
        go_wp2_with fail
        go_ret
        exact ⟨rfl, HB9.out⟩
      · have hno : ¬ (ps.length : Int) < (ps3.length : Int) := by omega
        have hcap' : (ps3.length : Int) ≤ (c : Int) := by omega
        go_wp2_with fail
        refine H19.out.mono ?_
        rintro e w9 ⟨rfl, hb9⟩
        have HB9 := hid (HBW.out.trans (hb9.mono HBW.out.size))
        clear hb9
        go_wp2_with fail
        go_ret
        exact ⟨rfl, HB9.out⟩
end Go.Proofs.Ytlgaianlkbaedaa

