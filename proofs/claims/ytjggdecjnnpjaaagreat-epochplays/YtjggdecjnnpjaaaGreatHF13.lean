/- EpochPlays. -/
import Derived.Test.YtjggdecjnnpjaaaGreatH25
import Derived.Test.YtjggdecjnnpjaaaGreatH14
import Derived.Deep.CutRange
import Derived.Deep.CutBlock
import Derived.Deep.RegionHeld
namespace Go.Proofs.YtjggdecjnnpjaaaGreat
open Go.RowKit Go.Maps Go.Sort
set_option maxRecDepth 100000
set_option linter.unusedSimpArgs false
set_option linter.unusedVariables false

theorem OpsAt.at_ {w : World} {so : Option Addr} {ops : List OpV} (h : OpsAt w so ops) (i : Nat) (hi : i < ops.length) : ∃ b off, so = some ⟨b, off, none⟩ ∧ b < w.heap.size ∧ ops[i].ok ∧ OpCells w b (off + i * 3) ops[i] := by
  rcases h with h | ⟨b, off, e, hlt, hc⟩
  · subst h; simp at hi
  · exact ⟨b, off, e, hlt, hc i hi⟩
theorem pick8 (c : Int) : pickI c 8 = 0 ∨ pickI c 8 = 1 ∨ pickI c 8 = 2 ∨ pickI c 8 = 3 ∨ pickI c 8 = 4 ∨ pickI c 8 = 5 ∨ pickI c 8 = 6 ∨ pickI c 8 = 7 := by
  have := pickI_range c 8 (by omega)
  omega
/-- A row that is written into: all else stays. -/
structure RowAt (w wq : World) (v : Value) (n : Nat) : Prop where
  keep : Keeps (fun k => v.ownBlock = some k) w wq
  row : ∀ g, v.ownBlock = some g → ∃ cs, wq.heap[g]? = some (.cells cs 51) ∧ n * 3 ≤ cs.size
theorem RowAt.of {w : World} {B : Nat} {v : Value} {l : List (Int × Int)} (h : w.ownsRow B 51 3 v l.length (flatA l)) {W : World} (hb : Below w.heap.size w W) : RowAt W W v l.length := by
  refine ⟨⟨rfl, rfl, rfl, Nat.le_refl _, fun k _ _ => rfl⟩, fun g hg => ?_⟩
  have hlt := (World.ownsRow.lt h g hg).2
  obtain ⟨h1, ⟨e, h0⟩ | ⟨g', cap', cur, e, hb', hg', rest⟩⟩ := h
  · rw [e] at hg; cases hg
  · rw [e] at hg
    cases hg
    refine ⟨cur, (hb.block _ hlt).trans hg', ?_⟩
    obtain ⟨r1, r2, r3, _⟩ := rest
    omega
theorem RowAt.set {w wq : World} {g n cap : Nat} {m : Nat} (h : RowAt w wq (.slice (some ⟨g, 0, none⟩) m cap) n) (j : Nat) (u : Value) : RowAt w (wq.setCell ⟨g, j, none⟩ u) (.slice (some ⟨g, 0, none⟩) m cap) n := by
  refine ⟨h.keep.trans (keeps_set wq g j u) (fun x hx => .inl (by subst hx; rfl)), fun g' hg => ?_⟩
  cases hg
  obtain ⟨cs, h1, h2⟩ := h.row g rfl
  exact ⟨_, set_box h1, by simpa using h2⟩
theorem PF.written {w0 w wq X q a q2 r l size n} {v : Value} (h : PF w0 w X q a q2 r l size) (hk : RowAt w wq v n) (hX : ∀ k, v.ownBlock = some k → X k ∧ w0.heap.size ≤ k) : PF w0 wq (fun _ => False) q a q2 r l size := by
  obtain ⟨fs, h1, h2⟩ := h
  exact ⟨fs, h1.beside hk.keep hX (fun _ => False) (fun k hk => hk.elim), h2⟩

set_option maxHeartbeats 12800000 in
theorem plays_walk (w : World) (n : Int) (hn : I64 n) (so : Option Addr) (cap0 : Nat) (ops : List OpV) (hops : OpsAt w so ops) (hlen : ops.length ≤ maxLen) :
    Calls Tryz.prog 3 #[.int .i64 n, .slice so ops.length cap0] w fun e w' => e = .returned (.bool true) ∧ Below w.heap.size w w' := by
  unfold maxLen at hlen
  have HSh := hid (shown_any w)
  have hpr := pickI_range n 400 (by omega)
  have HPk0 : Hid (∀ W, Calls Tryz.prog 5 #[.int .i64 n, .int .i64 400] W fun e w' => e = .returned (.int .i64 (pickI n 400)) ∧ w' = W) := fun W => pick_any n 400 W hn.1 hn.2 (by omega) (by omega)
  obtain ⟨p, hp⟩ : ∃ p : Nat, pickI n 400 = (p : Int) := ⟨(pickI n 400).toNat, by omega⟩
  rw [hp] at HPk0 hpr
  have hp400 : p ≤ 399 := by omega
  have HO : Hid (∀ W, Calls Tryz.prog 6 #[.int .i64 (20 + (p : Int))] W fun e w' => ∃ q a, e = .returned (.tuple #[.pointer (some ⟨q, 0, none⟩), .pointer (some ⟨a, 0, none⟩)]) ∧ Calls Tryz.prog 7 #[.int .i64 (20 + (p : Int))] w' fun e w'' => ∃ r, e = .returned (.pointer (some ⟨r, 0, none⟩)) ∧ PM W w'' (fun _ => False) q a r [] (20 + p)) := fun W => by
    have hh := opened_any (20 + p) (by omega) (by omega) W
    have hcast : (((20 + p : Nat)) : Int) = 20 + (p : Int) := by omega
    rw [hcast] at hh
    refine hh.mono fun e w' ⟨q, a, e1, e2, B, e3, e4⟩ => ⟨q, a, e1, ?_⟩
    have h7 := pm_new (n := 20 + p) (by omega) (by omega) e2.below e3 e4
    rw [hcast] at h7
    exact h7
  have hwr : IntKind.i64.wrap (20 + (p : Int)) = 20 + (p : Int) := IntWalk.i64_in _ (by omega)
  have HOps := hid hops
  clear hops hp hpr
  go_enter Tryz.func3, Tryz.ntmps3
  go_wp2_with fail
  refine HSh.out.mono ?_
  rintro e w1 ⟨rfl, hb1⟩
  have HB1 := hid hb1
  clear hb1 HSh
  go_wp2_with fail
  refine (HPk0.out _).mono ?_
  rintro e w2 ⟨rfl, rfl⟩
  go_wp2_with fail
  refine (HO.out _).mono ?_
  rintro e w3 ⟨q0, a, rfl, hm⟩
  have HM := hid hm
  clear hm HO
  go_wp2_with fail
  refine HM.out.mono ?_
  rintro e wa ⟨r, rfl, hm⟩
  have HM2 := hid hm.open
  clear hm HM
  go_wp2_with fail
  refine HM2.out.mono ?_
  rintro e wb ⟨q20, rfl, hf⟩
  have F0 := hid hf
  clear hf HM2
  go_wp2_with fail
  go_loopg [6, 9, 11] ops.length (fun kx s6 s9 s11 wr => ∃ (k q q2 : Nat) (l : List (Int × Int)), k ≤ ops.length ∧ k ≤ 200 ∧ ops.length - k ≤ kx ∧ s6 = .pointer (some ⟨q, 0, none⟩) ∧ s9 = .pointer (some ⟨q2, 0, none⟩) ∧ s11 = .int .i64 (k : Int) ∧ Hid (PF w2 wr (fun _ => False) q a q2 r l (20 + p)))
  case atStart => exact ⟨0, q0, q20, [], by omega, by omega, by omega, rfl, rfl, rfl, F0⟩
  case round =>
    obtain ⟨k, q, q2, l, hk, hk200, hkx, rfl, rfl, rfl, HI⟩ := hrel
    clear F0
    by_cases hlt : k < ops.length
    · have hlt1 : (k : Int) < (ops.length : Int) := by omega
      by_cases hltb : k < 200
      · have hlt2 : (k : Int) < 200 := by omega
        obtain ⟨sb, sf, rfl, hsb, ⟨oi0, oi1, oi2⟩, hO0, hO1, hO2⟩ := (HOps.out.under (HB1.out.trans (HI.out.below.mono HB1.out.size))).at_ k hlt
        generalize ops[k] = o at *
        have hbA := (Below.refl wr.heap.size wr).alloc (Nat.le_refl _) (.cells #[.int .i64 o.kind, .int .i64 o.key, .int .i64 o.tick] 36)
        have hOx := heap_alloc_new wr (.cells #[.int .i64 o.kind, .int .i64 o.key, .int .i64 o.tick] 36)
        have hzA : (wr.alloc (.cells #[.int .i64 o.kind, .int .i64 o.key, .int .i64 o.tick] 36)).heap.size = wr.heap.size + 1 := by simp
        have CA := hid (HI.out.with hbA (fun x => x = wr.heap.size) (fun x hx => .inr ⟨by omega, by omega⟩))
        have HOx := hid hOx
        have HPk : Hid (∀ W, Calls Tryz.prog 5 #[.int .i64 o.kind, .int .i64 8] W fun e w' => e = .returned (.int .i64 (pickI o.kind 8)) ∧ w' = W) := fun W => pick_any o.kind 8 W oi0.1 oi0.2 (by omega) (by omega)
        clear hbA hOx HI
        have HP8 := hid (pick8 o.kind)
        generalize pickI o.kind 8 = kd at *
        go_wp2_with fail
        refine (HPk.out _).mono ?_
        rintro e w4 ⟨rfl, hw⟩
        have C4 : Hid (PF w2 w4 (fun x => x = wr.heap.size) q a q2 r l (20 + p)) := by show PF _ _ _ _ _ _ _ _ _; rw [hw]; exact CA.out
        have O4 : Hid (w4.heap[wr.heap.size]? = some (.cells #[.int .i64 o.kind, .int .i64 o.key, .int .i64 o.tick] 36)) := by show _ = _; rw [hw]; exact HOx.out
        have hs4 : wr.heap.size < w4.heap.size := by rw [hw]; omega
        have p1 := cell_at O4.out (j := 1) rfl
        have p2 := cell_at O4.out (j := 2) rfl
        clear hw CA HOx HPk hO0 hO1 hO2 hzA
        generalize wr.heap.size = ob at *
        go_upto_block 2 with fail
        go_cut [6, 9, 13, 14, 15, 16, 17, 18, 19, 20, 21] from 55 to 216 (fun s6 s9 s13 s14 s15 s16 s17 s18 s19 s20 s21 wx => s13 = .bool true ∧ ∃ (q' q2' : Nat) (l' : List (Int × Int)), s6 = .pointer (some ⟨q', 0, none⟩) ∧ s9 = .pointer (some ⟨q2', 0, none⟩) ∧ Hid (PF w2 wx (fun _ => False) q' a q2' r l' (20 + p)))
        case first =>
          rcases HP8.out with hp | hp | hp | hp | hp | hp | hp | hp
          · subst hp
            as_aux_lemma =>
              have HPr := hid (fun W (hb : Below w4.heap.size w4 W) => (C4.out.under hb).begin o.key o.tick)
              go_wp2_with fail
              go_region_held (fun w' => w'.cell? ⟨ob, 1, none⟩ = some (.int .i64 o.key) ∧ w'.cell? ⟨ob, 2, none⟩ = some (.int .i64 o.tick)) (first | assumption | exact ⟨by assumption, by assumption⟩ | go_keep)
                (first
                  | (go_at_call 9; obtain ⟨l', E, hc⟩ := HPr.out _ ((Below.refl w4.heap.size w4).drew); refine hc.mono ?_; rintro e w5 ⟨rfl, hx5, hs5, H5⟩; have O5 := hid ((hx5 ob rfl).trans O4.out); have z1 := cell_at O5.out (j := 1) rfl; have z2 := cell_at O5.out (j := 2) rfl; clear hc hx5 hs5)
                  | (go_at_call 10; refine (H5.out _ (Below.refl _ _)).mono ?_; rintro e w6 ⟨rfl, hf6, hx6, hs6⟩; have O6 := hid ((hx6 ob rfl).trans O5.out); have y1 := cell_at O6.out (j := 1) rfl; have y2 := cell_at O6.out (j := 2) rfl; have HF6 := hid hf6; clear hf6 hx6 hs6))
              go_wp2_with fail
              go_meet
              case rel => exact ⟨by first | rfl | simp, q, q2, l', rfl, rfl, HF6.out.with (Below.refl _ _) (fun _ => False) (fun k hk => hk.elim)⟩
          · subst hp
            as_aux_lemma =>
              have HPr := hid (fun W (hb : Below w4.heap.size w4 W) => (C4.out.under hb).begin o.key o.tick)
              go_wp2_with fail
              go_region_held (fun w' => w'.cell? ⟨ob, 1, none⟩ = some (.int .i64 o.key) ∧ w'.cell? ⟨ob, 2, none⟩ = some (.int .i64 o.tick)) (first | assumption | exact ⟨by assumption, by assumption⟩ | go_keep)
                (first
                  | (go_at_call 9; obtain ⟨l', E, hc⟩ := HPr.out _ ((Below.refl w4.heap.size w4).drew); refine hc.mono ?_; rintro e w5 ⟨rfl, hx5, hs5, H5⟩; have O5 := hid ((hx5 ob rfl).trans O4.out); have z1 := cell_at O5.out (j := 1) rfl; have z2 := cell_at O5.out (j := 2) rfl; clear hc hx5 hs5)
                  | (go_at_call 10; refine (H5.out _ (Below.refl _ _)).mono ?_; rintro e w6 ⟨rfl, hf6, hx6, hs6⟩; have O6 := hid ((hx6 ob rfl).trans O5.out); have y1 := cell_at O6.out (j := 1) rfl; have y2 := cell_at O6.out (j := 2) rfl; have HF6 := hid hf6; clear hf6 hx6 hs6))
              go_wp2_with fail
              go_meet
              case rel => exact ⟨by first | rfl | simp, q, q2, l', rfl, rfl, HF6.out.with (Below.refl _ _) (fun _ => False) (fun k hk => hk.elim)⟩
          · subst hp
            as_aux_lemma =>
              have HPr := hid (fun W (hb : Below w4.heap.size w4 W) => (C4.out.under hb).begin o.key o.tick)
              go_wp2_with fail
              go_region_held (fun w' => w'.cell? ⟨ob, 1, none⟩ = some (.int .i64 o.key) ∧ w'.cell? ⟨ob, 2, none⟩ = some (.int .i64 o.tick)) (first | assumption | exact ⟨by assumption, by assumption⟩ | go_keep)
                (first
                  | (go_at_call 9; obtain ⟨l', E, hc⟩ := HPr.out _ ((Below.refl w4.heap.size w4).drew); refine hc.mono ?_; rintro e w5 ⟨rfl, hx5, hs5, H5⟩; have O5 := hid ((hx5 ob rfl).trans O4.out); have z1 := cell_at O5.out (j := 1) rfl; have z2 := cell_at O5.out (j := 2) rfl; clear hc hx5 hs5)
                  | (go_at_call 10; refine (H5.out _ (Below.refl _ _)).mono ?_; rintro e w6 ⟨rfl, hf6, hx6, hs6⟩; have O6 := hid ((hx6 ob rfl).trans O5.out); have y1 := cell_at O6.out (j := 1) rfl; have y2 := cell_at O6.out (j := 2) rfl; have HF6 := hid hf6; clear hf6 hx6 hs6))
              go_wp2_with fail
              go_meet
              case rel => exact ⟨by first | rfl | simp, q, q2, l', rfl, rfl, HF6.out.with (Below.refl _ _) (fun _ => False) (fun k hk => hk.elim)⟩
          · subst hp
            as_aux_lemma =>
              have HPr := hid (fun W (hb : Below w4.heap.size w4 W) => (C4.out.under hb).cut o.tick)
              go_wp2_with fail
              go_region_held (fun w' => w'.cell? ⟨ob, 1, none⟩ = some (.int .i64 o.key) ∧ w'.cell? ⟨ob, 2, none⟩ = some (.int .i64 o.tick)) (first | assumption | exact ⟨by assumption, by assumption⟩ | go_keep)
                (first
                  | (go_at_call 11; obtain ⟨l', E, hc⟩ := HPr.out _ ((Below.refl w4.heap.size w4).drew); refine hc.mono ?_; rintro e w5 ⟨rfl, hx5, hs5, H5⟩; have O5 := hid ((hx5 ob rfl).trans O4.out); have z1 := cell_at O5.out (j := 1) rfl; have z2 := cell_at O5.out (j := 2) rfl; clear hc hx5 hs5)
                  | (go_at_call 12; refine (H5.out _ (Below.refl _ _)).mono ?_; rintro e w6 ⟨rfl, hf6, hx6, hs6⟩; have O6 := hid ((hx6 ob rfl).trans O5.out); have y1 := cell_at O6.out (j := 1) rfl; have y2 := cell_at O6.out (j := 2) rfl; have HF6 := hid hf6; clear hf6 hx6 hs6))
              go_wp2_with fail
              go_meet
              case rel => exact ⟨by first | rfl | simp, q, q2, l', rfl, rfl, HF6.out.with (Below.refl _ _) (fun _ => False) (fun k hk => hk.elim)⟩
          · subst hp
            as_aux_lemma =>
              have HPr := hid (fun W (hb : Below w4.heap.size w4 W) => (C4.out.under hb).del o.tick)
              go_wp2_with fail
              go_region_held (fun w' => w'.cell? ⟨ob, 1, none⟩ = some (.int .i64 o.key) ∧ w'.cell? ⟨ob, 2, none⟩ = some (.int .i64 o.tick)) (first | assumption | exact ⟨by assumption, by assumption⟩ | go_keep)
                (first
                  | (go_at_call 13; obtain ⟨l', E, hc⟩ := HPr.out _ ((Below.refl w4.heap.size w4).drew); refine hc.mono ?_; rintro e w5 ⟨rfl, hx5, hs5, H5⟩; have O5 := hid ((hx5 ob rfl).trans O4.out); have z1 := cell_at O5.out (j := 1) rfl; have z2 := cell_at O5.out (j := 2) rfl; clear hc hx5 hs5)
                  | (go_at_call 14; refine (H5.out _ (Below.refl _ _)).mono ?_; rintro e w6 ⟨rfl, hf6, hx6, hs6⟩; have O6 := hid ((hx6 ob rfl).trans O5.out); have y1 := cell_at O6.out (j := 1) rfl; have y2 := cell_at O6.out (j := 2) rfl; have HF6 := hid hf6; clear hf6 hx6 hs6))
              go_wp2_with fail
              go_meet
              case rel => exact ⟨by first | rfl | simp, q, q2, l', rfl, rfl, HF6.out.with (Below.refl _ _) (fun _ => False) (fun k hk => hk.elim)⟩
          · subst hp
            as_aux_lemma =>
              have HE1 := hid (C4.out.end1 o.key o.tick)
              have HE2 := hid (fun W (hb : Below w4.heap.size w4 W) => (C4.out.under hb).end2 o.key o.tick)
              generalize endW l o.key o.tick = EN at *
              obtain ⟨ea, eb⟩ := EN
              simp only at HE1 HE2
              go_wp2_with fail
              refine HE1.out.mono ?_
              rintro e w5 ⟨rfl, hb5⟩
              have O5 := hid ((hb5.block ob (by omega)).trans O4.out)
              have z1 := cell_at O5.out (j := 1) rfl
              have z2 := cell_at O5.out (j := 2) rfl
              have H5 := hid (HE2.out _ hb5)
              have HB5 := hid hb5
              clear hb5 HE1 HE2
              go_wp2_with fail
              refine H5.out.mono ?_
              rintro e w6 ⟨rfl, hb6⟩
              have HF6 := hid ((C4.out.under HB5.out).under hb6)
              clear hb6
              go_wp2_with fail
              go_meet
              case rel => exact ⟨by first | rfl | simp, q, q2, l, rfl, rfl, HF6.out.with (Below.refl _ _) (fun _ => False) (fun k hk => hk.elim)⟩
          · subst hp
            as_aux_lemma =>
              have HE1 := hid (C4.out.end1 o.key o.tick)
              have HE2 := hid (fun W (hb : Below w4.heap.size w4 W) => (C4.out.under hb).end2 o.key o.tick)
              generalize endW l o.key o.tick = EN at *
              obtain ⟨ea, eb⟩ := EN
              simp only at HE1 HE2
              go_wp2_with fail
              refine HE1.out.mono ?_
              rintro e w5 ⟨rfl, hb5⟩
              have O5 := hid ((hb5.block ob (by omega)).trans O4.out)
              have z1 := cell_at O5.out (j := 1) rfl
              have z2 := cell_at O5.out (j := 2) rfl
              have H5 := hid (HE2.out _ hb5)
              have HB5 := hid hb5
              clear hb5 HE1 HE2
              go_wp2_with fail
              refine H5.out.mono ?_
              rintro e w6 ⟨rfl, hb6⟩
              have HF6 := hid ((C4.out.under HB5.out).under hb6)
              clear hb6
              go_wp2_with fail
              go_meet
              case rel => exact ⟨by first | rfl | simp, q, q2, l, rfl, rfl, HF6.out.with (Below.refl _ _) (fun _ => False) (fun k hk => hk.elim)⟩
          · subst hp
            as_aux_lemma =>
              have HK1 := hid (C4.out.with (Below.refl _ _) (fun _ => False) (fun k hk => hk.elim)).disks.crash1
              go_wp2_with fail
              refine HK1.out.mono ?_
              rintro e w5 ⟨rfl, h5⟩
              have HK2 := hid h5.crash2
              clear h5 HK1
              go_wp2_with fail
              refine HK2.out.mono ?_
              rintro e w6 ⟨rfl, h6⟩
              have HK3 := hid h6.open
              clear h6 HK2
              go_wp2_with fail
              refine HK3.out.mono ?_
              rintro e w7 ⟨q7, rfl, h7⟩
              have HK4 := hid h7.open
              clear h7 HK3
              go_wp2_with fail
              refine HK4.out.mono ?_
              rintro e w8 ⟨q8, rfl, h8⟩
              have HF6 := hid h8
              clear h8 HK4
              go_wp2_with fail
              go_meet
              case rel => exact ⟨rfl, q7, q8, l, rfl, rfl, HF6⟩
        case rest =>
          obtain ⟨rfl, q', q2', l', rfl, rfl, HF⟩ := hcut
          have HKl := hid HF.out.ok
          have HA := hid HF.out.all1
          have hl200 := HKl.out.few
          clear C4 O4 p1 p2 hs4
          go_wp2_with fail
          refine HA.out.mono ?_
          rintro e w6 ⟨rv, rfl, hr6, hb6⟩
          have F6 := hid (HF.out.with hb6 (fun x => rv.ownBlock = some x) (fun x hx => .inr (World.ownsRow.lt hr6 x hx)))
          have HX6 : Hid (∀ x, rv.ownBlock = some x → rv.ownBlock = some x ∧ w2.heap.size ≤ x) := fun x hx => ⟨hx, by have := (World.ownsRow.lt hr6 x hx).1; have := HF.out.below.size; omega⟩
          have A6 := hid (AL.of hr6)
          have HR6 : Hid (∀ W, Below w6.heap.size w6 W → RowAt W W rv l'.length) := fun W hb => RowAt.of hr6 hb
          have HA2 := hid F6.out.all2
          obtain ⟨lo, lc, rfl, hlo⟩ := A6.out.shape
          clear hr6 hb6 HA HF
          go_wp2_with fail
          refine HA2.out.mono ?_
          rintro e w7 ⟨rv2, rfl, hr7, hb7⟩
          have A7 := hid (AL.of hr7)
          have HS := hid (same_any (A6.out.under hb7) A7.out (by omega) (by omega))
          rw [decide_eq_true rfl] at HS
          have F7 := hid (F6.out.under hb7)
          have HB7 := hid hb7
          obtain ⟨ro, rc, rfl, _⟩ := A7.out.shape
          clear hr7 hb7 HA2 F6 A6 A7
          go_wp2_with fail
          refine HS.out.mono ?_
          rintro e w8 ⟨rfl, hb8⟩
          have F8 := hid (F7.out.under hb8)
          have HB8 := hid (HB7.out.trans (hb8.mono HB7.out.size))
          obtain ⟨rb, E, r1, r2⟩ := F8.out.read
          have HR1 := hid r1
          have HR2 := hid r2
          clear hb8 F7 HB7 HS r1 r2
          go_wp2_with fail
          refine (HR1.out _ (Below.refl _ _)).mono ?_
          rintro e w9 ⟨rfl, hb9⟩
          have F9 := hid (F8.out.under hb9)
          have HB9 := hid (HB8.out.trans (hb9.mono HB8.out.size))
          have HR2' := hid (HR2.out _ hb9)
          clear hb9 F8 HB8 HR1 HR2
          go_wp2_with fail
          refine HR2'.out.mono ?_
          rintro e w10 ⟨rfl, rfl⟩
          have HL1 := hid F9.out.last1
          have HL2 := hid (fun W (hb : Below w9.heap.size w9 W) => (F9.out.under hb).last2)
          generalize lastW l' = LL at *
          clear HR2'
          go_wp2_with fail
          refine HL1.out.mono ?_
          rintro e w11 ⟨rfl, hb11⟩
          have HL2' := hid (HL2.out _ hb11)
          have F11 := hid (F9.out.under hb11)
          have HB11 := hid (HB9.out.trans (hb11.mono HB9.out.size))
          clear hb11 F9 HB9 HL1 HL2
          go_wp2_with fail
          refine HL2'.out.mono ?_
          rintro e w12 ⟨rfl, hb12⟩
          have F12 := hid (F11.out.under hb12)
          have HB12 := hid (HB11.out.trans (hb12.mono HB11.out.size))
          have HR12 := hid (HR6.out _ HB12.out)
          clear hb12 F11 HB11 HL2' HR6 HB12
          go_wp2_with fail
          go_loopg [28] l'.length (fun jx s28 wq => ∃ j : Nat, j ≤ l'.length ∧ l'.length - j ≤ jx ∧ s28 = .int .i64 (j : Int) ∧ Hid (RowAt w12 wq (.slice lo l'.length lc) l'.length))
          case atStart => exact ⟨0, by omega, by omega, rfl, HR12⟩
          case round =>
            obtain ⟨j, hj, hjx, rfl, HJ⟩ := hrel
            clear HR12
            by_cases hjl : j < l'.length
            · have hjl' : (j : Int) < (l'.length : Int) := by omega
              obtain ⟨g, rfl⟩ := hlo (by omega)
              obtain ⟨cs, hg, hsz⟩ := HJ.out.row g rfl
              have hc0 := cell_at hg (j := j * 3) (u := cs[j * 3]'(by omega)) (by simp <;> omega)
              have hc1 := frozen_blk hg (j * 3)
              have HJ2 := hid (HJ.out.set (j * 3) (.int .i64 99))
              generalize (cs[j * 3]'(by omega)) = cv at *
              clear hg hsz
              go_wp2_with fail
              go_roundg (l'.length - (j + 1))
              case measure => omega
              case rel => exact ⟨j + 1, by omega, Nat.le_refl _, by go_num, HJ2⟩
            · have hjl' : ¬ (j : Int) < (l'.length : Int) := by omega
              have HFz := hid (F12.out.written HJ.out HX6.out)
              clear HJ F12
              go_wp2_with fail
              go_roundg (ops.length - (k + 1))
              case measure => omega
              case rel => exact ⟨k + 1, q', q2', l', by omega, by omega, Nat.le_refl _, rfl, rfl, by go_num, HFz⟩
      · have hlt2 : ¬ (k : Int) < 200 := by omega
        have HBz := hid (HB1.out.trans (HI.out.below.mono HB1.out.size))
        clear HI
        go_wp2_with fail
        go_ret
        exact ⟨rfl, HBz.out⟩
    · have hlt1 : ¬ (k : Int) < (ops.length : Int) := by omega
      have HBz := hid (HB1.out.trans (HI.out.below.mono HB1.out.size))
      clear HI
      go_wp2_with fail
      go_ret
      exact ⟨rfl, HBz.out⟩

end Go.Proofs.YtjggdecjnnpjaaaGreat

