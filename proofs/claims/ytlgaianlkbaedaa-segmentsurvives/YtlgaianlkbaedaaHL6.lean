/- SegmentFull. -/
import Derived.Test.YtlgaianlkbaedaaH39
import Derived.Test.YtlgaianlkbaedaaHL5
namespace Go.Proofs.Ytlgaianlkbaedaa
open Go.RowKit Go.Maps Go.Sort
set_option maxRecDepth 100000
set_option linter.unusedSimpArgs false
set_option linter.unusedVariables false

theorem BL.beside {w w' : World} {A : Nat} {v : Value} {ps : List (Bat × Value)} {r : Option Nat} (h : BL w A v ps) (hg : w.grownBy w' r) (hr : ∀ z, r = some z → z < A) : BL w' A v ps := by
  have key : ∀ z, A ≤ z → z < w.heap.size → w'.heap[z]? = w.heap[z]? := fun z h1 h2 => hg.block z h2 (fun e => by have := hr z e.symm; omega)
  refine ⟨ownsRow_kept h.row (fun z hz => key z (World.ownsRow.lt h.row z hz).1 (World.ownsRow.lt h.row z hz).2), fun p hp => (h.recs p hp).off (fun z hz => key z (h.off p hp z hz).1 (h.off p hp z hz).2.1) hg.size, fun p hp z hz => ?_⟩
  have := h.off p hp z hz
  exact ⟨this.1, Nat.lt_of_lt_of_le this.2.1 hg.size, this.2.2⟩
/-- What a round of the law stands on: the segment, the batches that were read, and what was read now. -/
structure Stand (w W : World) (q a base size : Nat) (bs : List Bat) (sf : Nat) (v : Value) (B : Nat) (nv : Value) : Prop where
  here : ∃ X ps, SO w W X q a base size bs sf ∧ RX W w.heap.size X v ps ∧ ps.map Prod.fst = bs
  now : ∃ ns, BL W B nv ns ∧ ns.map Prod.fst = bs
/-- The batch is added to what was read. -/
theorem Stand.push {w W W' w' : World} {q a base size : Nat} {bs bs' : List Bat} {sf : Nat} {v v' nv : Value} {B : Nat} {X : Nat → Prop} {ps ns : List (Bat × Value)} {b : Bat} {rv : Value} (hs : SO w W X q a base size bs' sf) (hr : RX W w.heap.size X v ps) (hps : ps.map Prod.fst = bs) (hn : BL W B nv ns) (hns : ns.map Prod.fst = bs') (hb' : bs' = bs ++ [b]) (hW : Below W.heap.size W W') (hrv : Recs W rv b.recs) (hv : ∀ z, v.ownBlock = some z → z < B) (ho : ∀ z, rv.ownBlock = some z → w.heap.size ≤ z ∧ z < W.heap.size ∧ v.ownBlock ≠ some z ∧ X z) (hown : w'.ownsRow w.heap.size 34 6 v' (ps.length + 1) (flatB ps ++ bcells b rv)) (hg : W'.grownBy w' v.ownBlock) (hat : v'.ownBlock = v.ownBlock ∨ v'.ownBlock = some W'.heap.size) : Stand w w' q a base size bs' sf v' B nv := by
  have hz := hW.size
  refine ⟨⟨_, _, (hs.under hW).grown (hr.under hW) (Nat.le_refl _) hg, (hr.under hW).push b rv (hrv.under hW) (fun z hz' => ?_) hown hg hat, by rw [List.map_append, hps, hb']; rfl⟩, ns, (hn.under hW).beside hg hv, hns⟩
  have := ho z hz'
  exact ⟨this.1, by omega, this.2.2.1, this.2.2.2⟩
theorem news_cells (w : World) (a0 a1 a2 a3 a4 a5 : Value) (T : TypeId) : ∀ j u, [a0, a1, a2, a3, a4, a5][j]? = some u → (w.alloc (.cells #[a0, a1, a2, a3, a4, a5] T)).cell? ((⟨w.heap.size, 0, none⟩ : Addr).add j) = some u := fun j u hu => by
  have hadd : (⟨w.heap.size, 0, none⟩ : Addr).add j = ⟨w.heap.size, j, none⟩ := by unfold Addr.add; split <;> simp_all
  rw [hadd]
  exact cell_at (heap_alloc_new _ _) (by simpa using hu)
theorem news_one (n0 n1 n2 n3 n4 : Int) (o : Option Addr) (l c : Nat) : ∀ u ∈ ([.int .i64 n0, .int .i64 n1, .int .i64 n2, .int .i64 n3, .int .i64 n4, .slice o l c] : List Value), u.oneCell' = true := by
  intro u hu
  simp at hu
  rcases hu with rfl | rfl | rfl | rfl | rfl | rfl <;> rfl
/-- Without what was read now. -/
def Here (w W : World) (q a base size : Nat) (bs : List Bat) (sf : Nat) (v : Value) : Prop := ∃ X ps, SO w W X q a base size bs sf ∧ RX W w.heap.size X v ps ∧ ps.map Prod.fst = bs
theorem Here.under {w W W' : World} {q a base size bs sf v} (h : Here w W q a base size bs sf v) (hb : Below W.heap.size W W') : Here w W' q a base size bs sf v := by
  obtain ⟨X, ps, h1, h2, h3⟩ := h
  exact ⟨X, ps, h1.under hb, h2.under hb, h3⟩
theorem Stand.same {w W : World} {q a base size bs sf v B nv} (h : Stand w W q a base size bs sf v B nv) (hl : bs.length ≤ 5000) : Calls Try.prog 19 #[nv, v] W fun e w' => e = .returned (.bool true) ∧ Here w w' q a base size bs sf v := by
  obtain ⟨⟨X, ps, h1, h2, h3⟩, ns, h4, h5⟩ := h
  exact (same_yes h4 h2.bl (by rw [h5, h3]) (by have := congrArg List.length h5; simp at this; omega)).mono fun e w' ⟨e1, e2⟩ => ⟨e1, X, ps, h1.under e2, h2.under e2, h3⟩
theorem Here.sync {w W : World} {q a base size bs sf v} (h : Here w W q a base size bs sf v) : Calls Try.prog 15 #[.pointer (some ⟨q, 0, none⟩)] W fun e w' => e = .returned (.int .i64 0) ∧ Here w w' q a base size bs (fileL bs).length v := by
  obtain ⟨X, ps, h1, h2, h3⟩ := h
  exact h1.sync.mono fun e w' ⟨e1, e2, e3, e4⟩ => ⟨e1, X, ps, e2, h2.kept e3 e4, h3⟩
theorem Here.clone {w W : World} {q a base size bs sf v} (h : Here w W q a base size bs sf v) : Calls Try.prog 20 #[.pointer (some ⟨a, 0, none⟩)] W fun e w' => e = .returned (.pointer (some ⟨W.heap.size, 0, none⟩)) ∧ DO W w' (fun _ => False) W.heap.size size (one sName (fileL bs) sf) := by
  obtain ⟨X, ps, h1, h2, h3⟩ := h
  exact h1.clone
theorem Here.again {w W W' : World} {q a base size bs sf v} (h : Here w W q a base size bs sf v) (hb : Below W.heap.size W W') {A : Nat} {rv : Value} {ps3 : List (Bat × Value)} (h3 : BL W' A rv ps3) (he : ps3.map Prod.fst = bs) (hl : bs.length ≤ 5000) : Calls Try.prog 19 #[rv, v] W' fun e w' => e = .returned (.bool true) ∧ Below W'.heap.size W' w' := by
  obtain ⟨X, ps, g1, g2, g3⟩ := h
  exact same_yes h3 (g2.under hb).bl (by rw [he, g3]) (by have := congrArg List.length he; simp at this; omega)
theorem Here.so {w W : World} {q a base size bs sf v} (h : Here w W q a base size bs sf v) : SO w W (fun _ => False) q a base size bs sf := by
  obtain ⟨X, ps, h1, h2, h3⟩ := h
  exact h1.less (fun k hk => by cases hk)
set_option maxHeartbeats 6400000 in
theorem full_walk (w : World) (c0 : Int) (hc0 : -9223372036854775808 ≤ c0 ∧ c0 ≤ 9223372036854775807) (oa : Option Addr) (ks : List Int) (cap : Nat) (hk : Nums w oa ks) :
    Calls Try.prog 4 #[.int .i64 c0, .slice oa ks.length cap] w fun e w' => e = .returned (.bool true) ∧ Below w.heap.size w w' := by
  have hlen := hk.len
  unfold maxLen at hlen
  have HK := hid hk
  obtain ⟨rz, N, hrz, hz0, hz1, hN1, hN2, hpz⟩ := pick_one c0 2000 hc0.1 hc0.2 (by decide) (by decide) 2000 rfl
  have HPZ := hid hpz
  have hwN : IntKind.i64.wrap (N : Int) = (N : Int) := IntWalk.i64_in _ (by omega)
  clear hk hpz hc0
  go_enter Try.func4, Try.ntmps4
  go_wp2_with (go_at_call 8; refine (shown_any w).mono ?_; rintro e w0 ⟨rfl, hb0⟩; have HB0 := hid hb0; clear hb0)
  refine (HPZ.out _).mono ?_
  rintro e wz ⟨rfl, rfl⟩
  have H9 : Hid (Calls Try.prog 9 #[.int .i64 (N : Int)] wz fun e w' => e = .returned (.tuple #[.pointer (some ⟨wz.heap.size, 0, none⟩), .int .i64 0]) ∧ DiskA w' (fun k => k = wz.heap.size) wz.heap.size N [] ∧ Below wz.heap.size wz w') := newA N wz hN1 (by omega)
  go_wp2_with fail
  refine H9.out.mono ?_
  rintro e w1 ⟨rfl, hD1, hb1⟩
  have H10 : Hid (Calls Try.prog 10 #[.pointer (some ⟨wz.heap.size, 0, none⟩), .string ⟨#[115]⟩, .int .i64 7] w1 _) := so_new 7 hD1 (HB0.out.trans (hb1.mono HB0.out.size)) (fun k hk => by rw [hk]; exact HB0.out.size) (by decide)
  clear H9 hD1 hb1 hrz
  generalize wz.heap.size = a at *
  go_wp2_with fail
  refine H10.out.mono ?_
  rintro e w2 ⟨q, rfl, hSO, _⟩
  have HS0 := hid hSO
  clear hSO H10
  go_wp2_with fail
  go_loopg [10] ks.length (fun kx s10 wr => ∃ (k : Nat) (bs : List Bat) (sf : Nat), k ≤ ks.length ∧ k ≤ 60 ∧ ks.length - k ≤ kx ∧ s10 = .int .i64 (k : Int) ∧ Hid (bs.length ≤ k ∧ Smalls bs ∧ SO w wr (fun _ => False) q a 7 N bs sf))
  case atStart => exact ⟨0, [], 0, by omega, by omega, by omega, rfl, Nat.le_refl _, Smalls.nil, HS0.out⟩
  case round =>
    obtain ⟨k, bs, sf, hk1, hk2, hkx, rfl, HD⟩ := hrel
    clear HS0
    by_cases hgo : k < ks.length ∧ k < 60
    · obtain ⟨hlt, h60⟩ := hgo
      have hlt' : (k : Int) < (ks.length : Int) := by omega
      have h60' : (k : Int) < 60 := by omega
      have hbl := HD.out.1
      have hend := HD.out.2.1.ends 7
      have hfile := HD.out.2.1.file
      have H18 : Hid (Calls Try.prog 18 #[.pointer (some ⟨q, 0, none⟩), .int .i64 7, .int .i64 100000] wr fun e w' => ∃ ps rv, e = .returned rv ∧ BL w' wr.heap.size rv ps ∧ ps.map Prod.fst = bs ∧ Below wr.heap.size wr w') := HD.out.2.2.readAll 100000 (by omega) 7 rfl
      go_wp2_with fail
      refine H18.out.mono ?_
      rintro e w3 ⟨ps, rv, rfl, hbl3, hps, hb3⟩
      obtain ⟨X, hxs, hxr⟩ : ∃ X : Nat → Prop, SO w w3 X q a 7 N bs sf ∧ RX w3 w.heap.size X rv ps := ⟨_, HD.out.2.2.more hb3, RX.of hbl3 HD.out.2.2.below.size (fun k h1 h2 => .inr ⟨h1, h2⟩)⟩
      have HXS := hid hxs
      have HXR := hid hxr
      have HPS := hid hps
      have HV3 : Hid (∀ z, rv.ownBlock = some z → z < w3.heap.size) := fun z hz => (World.ownsRow.lt hbl3.row z hz).2
      have HPL : Hid (ps.length = bs.length) := hid (by rw [← hps, List.length_map])
      clear hbl3 hps hb3 hxs hxr H18
      obtain ⟨b, off, rfl, hcell, hr1, hr2⟩ := HK.out.get HXS.out.below k hlt
      obtain ⟨r, n, hrn, hr0, hr30, hn1, hn30, hpick⟩ := pick_one ks[k] 30 hr1 hr2 (by decide) (by decide) 30 rfl
      have HP := hid hpick
      have HSM := hid HD.out.2.1
      have hlen2 := smallB_len (endM ⟨7, 0, 0⟩ bs).base n hn1 hn30 (by omega)
      have H12 : Hid (∀ W, Below w3.heap.size w3 W → Calls Try.prog 12 #[.pointer (some ⟨q, 0, none⟩)] W fun e w' => e = .returned (.int .i64 ((endM ⟨7, 0, 0⟩ bs).base : Int)) ∧ w' = W) := fun W hb => (HXS.out.under hb).next
      have H11 : Hid (∀ W, Calls Try.prog 11 #[.int .i64 ((endM ⟨7, 0, 0⟩ bs).base : Int), .int .i64 (n : Int)] W fun e w' => ∃ rv, e = .returned (.agg #[.int .i64 ((endM ⟨7, 0, 0⟩ bs).base : Int), .int .i64 1, .int .i64 0, .int .i64 0, .int .i64 0, rv]) ∧ Recs w' rv (List.replicate n smallR) ∧ (∀ k, rv.ownBlock = some k → W.heap.size ≤ k) ∧ Below W.heap.size W w') := fun W => small_any W _ n (by omega)
      have H14 : Hid (∀ W X rvb, SO w W X q a 7 N bs sf → Recs W rvb (List.replicate n smallR) → Calls Try.prog 14 #[.pointer (some ⟨q, 0, none⟩), .agg #[.int .i64 ((endM ⟨7, 0, 0⟩ bs).base : Int), .int .i64 1, .int .i64 0, .int .i64 0, .int .i64 0, rvb]] W fun e w' => ((e = .returned (.int .i64 0) ∧ SO w w' X q a 7 N (bs ++ [smallB (endM ⟨7, 0, 0⟩ bs).base n]) sf) ∨ (e = .returned (.int .i64 7) ∧ SO w w' X q a 7 N bs sf)) ∧ KX X W w' ∧ W.heap.size ≤ w'.heap.size) := fun W X rvb hs hr => by
        by_cases hroom : (batchL (smallB (endM ⟨7, 0, 0⟩ bs).base n)).1.length ≤ N - (fileL bs).length
        · exact (hs.append _ rfl n hn1 hn30 (by omega) (by omega) rvb hr hroom).mono fun e w' ⟨e1, e2, e3, e4⟩ => ⟨.inl ⟨e1, e2⟩, e3, e4⟩
        · exact (hs.full _ rfl n hn1 hn30 (by omega) (by omega) rvb hr hroom).mono fun e w' ⟨e1, e2, e3, e4⟩ => ⟨.inr ⟨e1, e2⟩, e3, e4⟩
      have HSM2 := hid (HSM.out.push (endM ⟨7, 0, 0⟩ bs).base n hn1 hn30 (by omega))
      have HNB : Hid (smallB (endM ⟨7, 0, 0⟩ bs).base n = ⟨((endM ⟨7, 0, 0⟩ bs).base : Int), 1, 0, 0, 0, List.replicate n smallR⟩) := rfl
      have hwr : IntKind.i64.wrap (n : Int) = (n : Int) := IntWalk.i64_in _ (by omega)
      have hbb : (endM ⟨7, 0, 0⟩ bs).base ≤ 4000 := by omega
      have HFZ : Hid ((fileL (bs ++ [smallB (endM ⟨7, 0, 0⟩ bs).base n])).length ≤ 100000) := hid (by rw [fileL_append, List.length_append]; simp only [fileL, List.length_append, List.length_nil]; omega)
      clear hend hlen2 hpick HD
      have HCL0 : Hid (∀ W, Below w.heap.size w W → W.cell? ⟨b, off + k, none⟩ = some (.int .i64 ks[k])) := fun W hb => HK.out.cell hb k hlt
      generalize smallB (endM ⟨7, 0, 0⟩ bs).base n = NB at *
      generalize (endM ⟨7, 0, 0⟩ bs).base = NX at *
      generalize ks[k] = c at *
      have hblt : b < w3.heap.size := World.block_lt_of_cell? _ _ hcell
      have hbne : ¬ b = w3.heap.size := by omega
      have hbne' : ¬ w3.heap.size = b := by omega
      have HCL : Hid (∀ W, Below w.heap.size w W → W.cell? ⟨b, off + k, none⟩ = some (.int .i64 c)) := HCL0
      go_wp2_with fail
      go_region_held3 (fun w' => w'.cell? ⟨b, off + k, none⟩ = some (.int .i64 c)) (go_keep)
        (first
        | (go_at_call 12; refine (H12.out _ (by repeat (first | exact Below.refl _ _ | apply Below.drew | refine Below.alloc ?_ (by simp) _))).mono ?_; rintro e w4 ⟨rfl, rfl⟩)
        | (go_at_call 13; refine (HP.out _).mono ?_; rintro e w4 ⟨rfl, rfl⟩)
        | (go_at_call 11; refine (H11.out _).mono ?_; rintro e w5 ⟨rvb, rfl, hr5, ho5, hb5⟩; obtain ⟨rba, rbc, hrvb, _⟩ := hr5.shape; rw [List.length_replicate] at hrvb; subst hrvb; have HX5 : Hid (Boxed w3 w5 (.cells #[.int .i64 0, .int .i64 0, .int .i64 0, .int .i64 0, .int .i64 0, .slice none 0 0] 34)) := (by first | exact (Boxed.laid w3 _).next hb5 | exact ((Boxed.laid w3 _).next (Below.refl _ _).drew).next hb5); have HB5 : Hid (Below w3.heap.size w3 w5) := HX5.out.below; obtain ⟨p0, p1, p2, p3, p4, p5⟩ := six HX5.out; obtain ⟨f0, f1, f2, f3, f4, f5⟩ := six_frozen HX5.out; have HO6 : Hid (∀ z, (Value.slice rba n rbc).ownBlock = some z → z ≠ w3.heap.size) := (fun z hz => by have h := ho5 z hz; simp at h; omega); have HR5 := hid hr5; have HO5 : Hid (∀ z, (Value.slice rba n rbc).ownBlock = some z → w3.heap.size ≤ z) := (fun z hz => by have h := ho5 z hz; simp at h; omega); have hc5 := HCL.out w5 (HXS.out.below.trans (HB5.out.mono HXS.out.below.size)); clear hr5 ho5 hb5)
        | (go_at_call 11; refine (H11.out _).mono ?_; rintro e w5 ⟨rvb, rfl, hr5, ho5, hb5⟩; obtain ⟨rba, rbc, hrvb, _⟩ := hr5.shape; rw [List.length_replicate] at hrvb; subst hrvb; have HB5 : Hid (Below w3.heap.size w3 w5) := (by first | exact hb5 | exact (Below.refl _ _).drew.trans hb5); have HR5 := hid hr5; have HO5 : Hid (∀ z, (Value.slice rba n rbc).ownBlock = some z → w3.heap.size ≤ z) := (fun z hz => by have h := ho5 z hz; simp at h; omega); have hc5 := HCL.out w5 (HXS.out.below.trans (HB5.out.mono HXS.out.below.size)); clear hr5 ho5 hb5)
        | fail)
      all_goals
        go_wp2_with fail
        first
        | (have HBX := hid (HX5.out.six (.int .i64 (NX : Int)) (.int .i64 1) (.int .i64 0) (.int .i64 0) (.int .i64 0) (.slice rba n rbc))
           have hrw := HR5.out.off (fun z hz => six_keep2 w5 w3.heap.size z (.int .i64 (NX : Int)) (.int .i64 1) (.int .i64 0) (.int .i64 0) (.int .i64 0) (.slice rba n rbc) (HO6.out z hz)) (by rw [six_size]; exact Nat.le_refl _)
           clear p0 p1 p2 p3 p4 p5 f0 f1 f2 f3 f4 f5 HX5 hc5
           generalize ((((((w5.setCell ⟨w3.heap.size, 0, none⟩ (.int .i64 (NX : Int))).setCell ⟨w3.heap.size, 1, none⟩ (.int .i64 1)).setCell ⟨w3.heap.size, 2, none⟩ (.int .i64 0)).setCell ⟨w3.heap.size, 3, none⟩ (.int .i64 0)).setCell ⟨w3.heap.size, 4, none⟩ (.int .i64 0)).setCell ⟨w3.heap.size, 5, none⟩ (.slice rba n rbc)) = W at *
           obtain ⟨p, hp⟩ : ∃ p, p = w3.heap.size := ⟨_, rfl⟩
           have HQ : Hid (Below w3.heap.size w3 W ∧ W.heap[p]? = some (.cells #[.int .i64 (NX : Int), .int .i64 1, .int .i64 0, .int .i64 0, .int .i64 0, .slice rba n rbc] 34) ∧ Recs W (.slice rba n rbc) (List.replicate n smallR) ∧ w3.heap.size ≤ p ∧ p < W.heap.size) := ⟨HBX.out.below, by rw [hp]; exact HBX.out.box, hrw, by omega, by rw [hp]; exact HBX.out.lt⟩
           rw [← hp]
           clear HBX hrw hp)
        | (have hBX := Boxed.laid w5 (.cells #[.int .i64 (NX : Int), .int .i64 1, .int .i64 0, .int .i64 0, .int .i64 0, .slice rba n rbc] 34)
           have hrw := HR5.out.under hBX.below
           have hbw : Below w3.heap.size w3 (w5.alloc (.cells #[.int .i64 (NX : Int), .int .i64 1, .int .i64 0, .int .i64 0, .int .i64 0, .slice rba n rbc] 34)) := HB5.out.alloc HB5.out.size _
           have hs5 := HB5.out.size
           generalize w5.alloc (.cells #[.int .i64 (NX : Int), .int .i64 1, .int .i64 0, .int .i64 0, .int .i64 0, .slice rba n rbc] 34) = W at *
           obtain ⟨p, hp⟩ : ∃ p, p = w5.heap.size := ⟨_, rfl⟩
           have HQ : Hid (Below w3.heap.size w3 W ∧ W.heap[p]? = some (.cells #[.int .i64 (NX : Int), .int .i64 1, .int .i64 0, .int .i64 0, .int .i64 0, .slice rba n rbc] 34) ∧ Recs W (.slice rba n rbc) (List.replicate n smallR) ∧ w3.heap.size ≤ p ∧ p < W.heap.size) := ⟨hbw, by rw [hp]; exact hBX.box, hrw, by omega, by rw [hp]; exact hBX.lt⟩
           rw [← hp]
           clear hBX hrw hbw hs5 hp hc5)
        clear HB5 HR5 H11 H12 HP
        obtain ⟨Y, hsY, hrY, hY⟩ : ∃ Y : Nat → Prop, SO w W Y q a 7 N bs sf ∧ RX W w.heap.size Y rv ps ∧ ∀ z, w3.heap.size ≤ z → z < W.heap.size → Y z := ⟨_, HXS.out.more HQ.out.1, (HXR.out.under HQ.out.1).wide (fun z hz => .inl hz), fun z h1 h2 => .inr ⟨h1, h2⟩⟩
        have H14' := hid (H14.out W Y _ hsY HQ.out.2.2.1)
        have HRY := hid hrY
        have HY := hid hY
        have hww3 : w.heap.size ≤ w3.heap.size := HXS.out.below.size
        clear hsY hrY hY H14
        refine H14'.out.mono ?_
        rintro e w6 ⟨hor, hk6, hz6⟩
        have HR6 := hid (HRY.out.kept hk6 hz6)
        have hne : List.replicate n smallR ≠ [] := fun e => by have := congrArg List.length e; simp at this; omega
        have HRB : Hid (Recs w6 (.slice rba n rbc) (List.replicate n smallR)) := HQ.out.2.2.1.off (fun z hz => hk6 z (HY.out z (HO5.out z hz) (HQ.out.2.2.1.lt hne z hz))) hz6
        have HBX6 := hid ((hk6 p (HY.out p HQ.out.2.2.2.1 HQ.out.2.2.2.2)).trans HQ.out.2.1)
        have HRBO : Hid (∀ z, (Value.slice rba n rbc).ownBlock = some z → w.heap.size ≤ z ∧ z < w6.heap.size ∧ rv.ownBlock ≠ some z ∧ Y z) := fun z hz => ⟨by have := HO5.out z hz; omega, HRB.out.lt hne z hz, fun e => by have := HV3.out z e; have := HO5.out z hz; omega, HY.out z (HO5.out z hz) (HQ.out.2.2.1.lt hne z hz)⟩
        have hs36 : w3.heap.size ≤ w6.heap.size := by have := HQ.out.1.size; omega
        clear hk6 hz6 H14' HRY HQ hne HO5
        rcases hor with ⟨rfl, hs6⟩ | ⟨rfl, hs6⟩
        · skip
          have HS6 := hid hs6
          clear hs6
          go_wp2_with fail
          have H18 : Hid (Calls Try.prog 18 #[.pointer (some ⟨q, 0, none⟩), .int .i64 7, .int .i64 100000] w6 fun e w' => ∃ ps3 rv3, e = .returned rv3 ∧ BL w' w6.heap.size rv3 ps3 ∧ ps3.map Prod.fst = (bs ++ [NB]) ∧ Below w6.heap.size w6 w') := HS6.out.readAll 100000 (by have := HFZ.out; omega) 7 rfl
          refine H18.out.mono ?_
          rintro e w7 ⟨ns, nv, rfl, hbl7, hns, hb7⟩
          have HN7 := hid hbl7
          have HM7 := hid hns
          have HS7 := hid (HS6.out.under hb7)
          have HR7 := hid (HR6.out.under hb7)
          have HRB7 := hid (HRB.out.under hb7)
          have hbx := (hb7.block p (Array.getElem?_eq_some_iff.1 HBX6.out).1).trans HBX6.out
          have hsz7 := hb7.size
          have z0 := cell_at hbx (j := 0) rfl
          have z1 := cell_at hbx (j := 1) rfl
          have z2 := cell_at hbx (j := 2) rfl
          have z3 := cell_at hbx (j := 3) rfl
          have z4 := cell_at hbx (j := 4) rfl
          have z5 := cell_at hbx (j := 5) rfl
          obtain ⟨i0, hi0, hi1, hi2, hi3⟩ := info34
          have hps60 : ps.length ≤ 60 := by have := HPL.out; omega
          have hw7 : w.heap.size ≤ w7.heap.size := by omega
          have HROW : Hid ((w7.alloc (.cells #[.int .i64 (NX : Int), .int .i64 1, .int .i64 0, .int .i64 0, .int .i64 0, .slice rba n rbc] 34)).ownsRow w.heap.size 34 6 rv ps.length (flatB ps)) := ownsRow_kept HR7.out.bl.row (fun z hz => Below.heap_alloc _ _ _ (World.ownsRow.lt HR7.out.bl.row z hz).2)
          have HNW1 : Hid (∀ j u, ([.int .i64 (NX : Int), .int .i64 1, .int .i64 0, .int .i64 0, .int .i64 0, .slice rba n rbc] : List Value)[j]? = some u → (w7.alloc (.cells #[.int .i64 (NX : Int), .int .i64 1, .int .i64 0, .int .i64 0, .int .i64 0, .slice rba n rbc] 34)).cell? ((⟨w7.heap.size, 0, none⟩ : Addr).add j) = some u) := news_cells w7 _ _ _ _ _ _ 34
          have HON1 : Hid (∀ u ∈ ([.int .i64 (NX : Int), .int .i64 1, .int .i64 0, .int .i64 0, .int .i64 0, .slice rba n rbc] : List Value), u.oneCell' = true) := news_one _ _ _ _ _ _ _ _
          have HST : Hid (∀ v2 w8, w8.ownsRow w.heap.size 34 6 v2 (ps.length + 1) (flatB ps ++ [.int .i64 (NX : Int), .int .i64 1, .int .i64 0, .int .i64 0, .int .i64 0, .slice rba n rbc]) → (w7.alloc (.cells #[.int .i64 (NX : Int), .int .i64 1, .int .i64 0, .int .i64 0, .int .i64 0, .slice rba n rbc] 34)).grownBy w8 rv.ownBlock → (v2.ownBlock = rv.ownBlock ∨ v2.ownBlock = some (w7.alloc (.cells #[.int .i64 (NX : Int), .int .i64 1, .int .i64 0, .int .i64 0, .int .i64 0, .slice rba n rbc] 34)).heap.size) → Stand w w8 q a 7 N (bs ++ [NB]) sf v2 w6.heap.size nv) := fun v2 w8 h1 h2 h3 => Stand.push HS7.out HR7.out HPS.out HN7.out HM7.out rfl ((Below.refl _ _).alloc (Nat.le_refl _) (.cells #[.int .i64 (NX : Int), .int .i64 1, .int .i64 0, .int .i64 0, .int .i64 0, .slice rba n rbc] 34)) (b := NB) (rv := .slice rba n rbc) (by rw [HNB.out]; exact HRB7.out) (fun z hz => by have := HV3.out z hz; omega) (fun z hz => by have := HRBO.out z hz; exact ⟨this.1, by omega, this.2.2.1, this.2.2.2⟩) (by rw [HNB.out]; exact h1) h2 h3
          clear hbl7 hns hb7 H18 HS6 HR6 HRB HBX6 hbx
          generalize flatB ps = F at *
          go_wp2_with (at_builtin; refine wpList_append_own_at _ rfl _ _ 31 rfl w.heap.size 34 i0 _ 6 64 Try.underlying31 hi0 hi1 hi2 hi3 rfl (by decide) _ ps.length F rfl HROW.out ⟨w7.heap.size, 0, none⟩ 1 1 [.int .i64 (NX : Int), .int .i64 1, .int .i64 0, .int .i64 0, .int .i64 0, .slice rba n rbc] rfl rfl HNW1.out HON1.out (by unfold maxLen; omega) (by omega) (by simp; omega) ?_; intro v2 w8 hown8 hg8 _ hat8; have HSTD := hid (HST.out v2 w8 hown8 hg8 hat8); clear hown8 hg8 hat8 z0 z1 z2 z3 z4 z5)
          have HFIN : Hid (∃ bs2, bs2.length ≤ k + 1 ∧ Smalls bs2 ∧ (fileL bs2).length ≤ 100000 ∧ Stand w w8 q a 7 N bs2 sf v2 w6.heap.size nv) := ⟨_, by simp; omega, HSM2.out, HFZ.out, HSTD.out⟩
          clear HST HSTD HROW HNW1 HON1 HS7 HR7 HRB7 HN7 HM7
          obtain ⟨bs2, hb2a, hb2b, hb2c, hstd⟩ := HFIN.out
          have HSM3 := hid hb2b
          have H19 := hid (hstd.same (by omega))
          clear hstd hb2b HFIN
          refine H19.out.mono ?_
          rintro e w9 ⟨rfl, hh9⟩
          have HH9 := hid hh9
          clear hh9 H19
          go_wp2_with fail
          refine HH9.out.sync.mono ?_
          rintro e w10 ⟨rfl, hh10⟩
          have HH10 := hid hh10
          clear hh10 HH9
          go_wp2_with fail
          refine HH10.out.clone.mono ?_
          rintro e w11 ⟨rfl, hd11⟩
          have HD11 := hid hd11
          have HF2 := hid HH10.out.so.fits
          clear hd11
          generalize hcb : w10.heap.size = cb at HD11 ⊢
          have HCB := hid hcb
          clear hcb
          go_wp2_with fail
          refine (copy_crash HD11.out).mono ?_
          rintro e w12 ⟨rfl, hd12⟩
          have H10 : Hid (Calls Try.prog 10 #[.pointer (some ⟨cb, 0, none⟩), .string ⟨#[115]⟩, .int .i64 7] w12 _) := copy_open 7 (by decide) HF2.out hd12
          clear hd12 HD11
          go_wp2_with fail
          refine H10.out.mono ?_
          rintro e w13 ⟨t, rfl, hs13⟩
          have HS13 := hid hs13
          clear hs13 H10
          have H18 : Hid (Calls Try.prog 18 #[.pointer (some ⟨t, 0, none⟩), .int .i64 7, .int .i64 100000] w13 fun e w' => ∃ ps3 rv3, e = .returned rv3 ∧ BL w' w13.heap.size rv3 ps3 ∧ ps3.map Prod.fst = bs2 ∧ Below w13.heap.size w13 w') := HS13.out.readAll 100000 (by omega) 7 rfl
          go_wp2_with fail
          refine H18.out.mono ?_
          rintro e w14 ⟨ps3, rv3, rfl, hbl14, hm14, hb14⟩
          have HB14 := hid (HS13.out.below.trans (hb14.mono HS13.out.below.size))
          have H19 := hid (HH10.out.again HB14.out hbl14 hm14 (by omega))
          clear hbl14 hm14 hb14 H18 HS13
          go_wp2_with fail
          refine H19.out.mono ?_
          rintro e w15 ⟨rfl, hb15⟩
          have HZ15 := hid (HH10.out.so.under (HB14.out.trans (hb15.mono HB14.out.size)))
          clear hb15 H19
          go_wp2_with fail
          go_roundg (ks.length - (k + 1))
          case measure => omega
          case rel => exact ⟨k + 1, bs2, _, by omega, by omega, Nat.le_refl _, by go_num, hb2a, HSM3.out, HZ15.out⟩
        · skip
          have HS6 := hid hs6
          clear hs6
          go_wp2_with fail
          have H18 : Hid (Calls Try.prog 18 #[.pointer (some ⟨q, 0, none⟩), .int .i64 7, .int .i64 100000] w6 fun e w' => ∃ ps3 rv3, e = .returned rv3 ∧ BL w' w6.heap.size rv3 ps3 ∧ ps3.map Prod.fst = bs ∧ Below w6.heap.size w6 w') := HS6.out.readAll 100000 (by omega) 7 rfl
          refine H18.out.mono ?_
          rintro e w8 ⟨ns, nv, rfl, hbl7, hns, hb7⟩
          have HFIN : Hid (∃ bs2, bs2.length ≤ k + 1 ∧ Smalls bs2 ∧ (fileL bs2).length ≤ 100000 ∧ Stand w w8 q a 7 N bs2 sf rv w6.heap.size nv) := ⟨bs, by omega, HSM.out, by omega, ⟨⟨Y, ps, HS6.out.under hb7, HR6.out.under hb7, HPS.out⟩, ns, hbl7, hns⟩⟩
          clear hbl7 hns hb7 H18
          go_wp2_with fail
          obtain ⟨bs2, hb2a, hb2b, hb2c, hstd⟩ := HFIN.out
          have HSM3 := hid hb2b
          have H19 := hid (hstd.same (by omega))
          clear hstd hb2b HFIN
          refine H19.out.mono ?_
          rintro e w9 ⟨rfl, hh9⟩
          have HH9 := hid hh9
          clear hh9 H19
          go_wp2_with fail
          refine HH9.out.sync.mono ?_
          rintro e w10 ⟨rfl, hh10⟩
          have HH10 := hid hh10
          clear hh10 HH9
          go_wp2_with fail
          refine HH10.out.clone.mono ?_
          rintro e w11 ⟨rfl, hd11⟩
          have HD11 := hid hd11
          have HF2 := hid HH10.out.so.fits
          clear hd11
          generalize hcb : w10.heap.size = cb at HD11 ⊢
          have HCB := hid hcb
          clear hcb
          go_wp2_with fail
          refine (copy_crash HD11.out).mono ?_
          rintro e w12 ⟨rfl, hd12⟩
          have H10 : Hid (Calls Try.prog 10 #[.pointer (some ⟨cb, 0, none⟩), .string ⟨#[115]⟩, .int .i64 7] w12 _) := copy_open 7 (by decide) HF2.out hd12
          clear hd12 HD11
          go_wp2_with fail
          refine H10.out.mono ?_
          rintro e w13 ⟨t, rfl, hs13⟩
          have HS13 := hid hs13
          clear hs13 H10
          have H18 : Hid (Calls Try.prog 18 #[.pointer (some ⟨t, 0, none⟩), .int .i64 7, .int .i64 100000] w13 fun e w' => ∃ ps3 rv3, e = .returned rv3 ∧ BL w' w13.heap.size rv3 ps3 ∧ ps3.map Prod.fst = bs2 ∧ Below w13.heap.size w13 w') := HS13.out.readAll 100000 (by omega) 7 rfl
          go_wp2_with fail
          refine H18.out.mono ?_
          rintro e w14 ⟨ps3, rv3, rfl, hbl14, hm14, hb14⟩
          have HB14 := hid (HS13.out.below.trans (hb14.mono HS13.out.below.size))
          have H19 := hid (HH10.out.again HB14.out hbl14 hm14 (by omega))
          clear hbl14 hm14 hb14 H18 HS13
          go_wp2_with fail
          refine H19.out.mono ?_
          rintro e w15 ⟨rfl, hb15⟩
          have HZ15 := hid (HH10.out.so.under (HB14.out.trans (hb15.mono HB14.out.size)))
          clear hb15 H19
          go_wp2_with fail
          go_roundg (ks.length - (k + 1))
          case measure => omega
          case rel => exact ⟨k + 1, bs2, _, by omega, by omega, Nat.le_refl _, by go_num, hb2a, HSM3.out, HZ15.out⟩
    · rcases Nat.lt_or_ge k ks.length with hlt | hlt
      all_goals
        first
        | (have hlt' : (k : Int) < (ks.length : Int) := by omega
           have h60' : ¬ (k : Int) < 60 := by omega)
        | (have hlt' : ¬ (k : Int) < (ks.length : Int) := by omega)
        go_wp2_with fail
        go_ret
        exact ⟨rfl, HD.out.2.2.below⟩
end Go.Proofs.Ytlgaianlkbaedaa

