/- DedupPlays: the walk. -/
import Derived.Test.YtkdbclnnmpnfgaaHR11
import Derived.Test.YtkdbclnnmpnfgaaHD27
import Derived.Deep.CutBlock
import Derived.Deep.CutRange
namespace Go.Proofs.Ytkdbclnnmpnfgaa
open Go.RowKit Go.Maps
set_option maxRecDepth 100000
set_option linter.unusedSimpArgs false
set_option linter.unusedVariables false

theorem cut_cnt (N : Int) (T : Tb) : cntT (turnT (cutN N) T) ≤ cntT T := by
  rw [← flatT_length, ← cutM_flatT, ← flatT_length]
  exact List.length_filter_le _ _
theorem short_cnt {T : Tb} (h : TOk T) (N : Int) : cntT (turnT (shortL N) T) ≤ cntT T := by
  rw [← flatT_length, ← delM_flatT N T h.rise (fun p hp => (h.each p hp).2.2), ← flatT_length]
  exact delM_le N _
theorem keep_few {T : Tb} (h : TOk T) (hc : cntT T ≤ 300) : (keepB T).length ≤ 100000 := by
  have h1 := tabB_length T
  have h2 := cntT_len T (fun p hp => (h.each p hp).2.1)
  have h3 := (intL_length (T.length : Int)).2
  unfold keepB sealL
  have h4 : ∀ l, (fourL (crcL l)).length = 4 := fun l => rfl
  simp only [List.length_append, h4]
  omega
theorem batch_at (pid ep seq base : Int) (n : Nat) (w : World) (hn : n ≤ 1000) :
    Calls Try.prog 11 #[.int .i64 pid, .int .i64 ep, .int .i64 seq, .int .i64 (n : Int), .int .i64 base] w fun e w' => ∃ g : Nat,
      e = .returned (.agg #[.int .i64 base, .int .i64 0, .int .i64 pid, .int .i64 ep, .int .i64 seq, .slice (some ⟨g, 0, none⟩) n n]) ∧ Recs w' (.slice (some ⟨g, 0, none⟩) n n) (zrecs n) ∧ (w.heap.size ≤ g ∧ g < w'.heap.size) ∧ Below w.heap.size w w' :=
  (batch_any pid ep seq base n w hn).mono fun e w' ⟨e1, e2, e3, e4⟩ => ⟨_, e1, e2, ⟨Nat.le_succ _, e3⟩, e4⟩

theorem PQ.wide {w0 w w1 : World} {q r : Nat} {A U : Tb} {b0 : Nat} (h : PQ w0 w q r A U b0 w.heap.size) (hb : Below w.heap.size w w1) : PQ w0 w1 q r A U b0 w1.heap.size := by
  obtain ⟨S, v, h1, h2, h3, h4, h5, h6, h7, h8, h9⟩ := h
  exact ⟨S, v, h1.under hb, h2.under hb, h3, h4, h5, fun k hk => ⟨(h6 k hk).1, by have := h1.below k hk; have := (h6 k hk).2; omega⟩, ⟨h7.1, by have := h2.lt; have := h7.2; omega⟩, h8.trans (hb.mono h8.size), Nat.le_refl _⟩
theorem PQ.room {w0 w : World} {q r : Nat} {A U : Tb} {b0 b1 : Nat} (h : PQ w0 w q r A U b0 b1) : b1 ≤ w.heap.size := by obtain ⟨S, v, _, _, _, _, _, _, _, _, h1⟩ := h; exact h1
theorem six33 {W : World} {a0 a1 a2 a3 a4 a5 : Value} {q : Nat} (h : W.heap[q]? = some (.cells #[a0, a1, a2, a3, a4, a5] 33)) :
    W.cell? ⟨q, 0, none⟩ = some a0 ∧ W.cell? ⟨q, 1, none⟩ = some a1 ∧ W.cell? ⟨q, 2, none⟩ = some a2 ∧ W.cell? ⟨q, 3, none⟩ = some a3 ∧ W.cell? ⟨q, 4, none⟩ = some a4 ∧ W.cell? ⟨q, 5, none⟩ = some a5 :=
  ⟨cell_blk h 0 _ rfl, cell_blk h 1 _ rfl, cell_blk h 2 _ rfl, cell_blk h 3 _ rfl, cell_blk h 4 _ rfl, cell_blk h 5 _ rfl⟩

set_option maxHeartbeats 25600000 in
theorem plays_walk (w : World) (so : Option Addr) (cap : Nat) (ops : List OpV) (hops : OpsAt w so ops) (hlen : ops.length ≤ maxLen) :
    Calls Try.prog 3 #[.slice so ops.length cap] w fun e w' => e = .returned (.bool true) ∧ Below w.heap.size w w' := by
  unfold maxLen at hlen
  have HOPS := hid hops
  clear hops
  go_enter Try.func3, Try.ntmps3
  go_wp2_with fail
  refine (shown_any w).mono ?_
  rintro e w1 ⟨rfl, hb1⟩
  have HB1 := hid hb1
  clear hb1
  go_wp2_with fail
  refine (new_any w1).mono ?_
  rintro e w2 ⟨q0, S0, rfl, ta, sa, hb2⟩
  have HTA := hid ta
  have HSA := hid sa
  have HB2 := hid hb2
  clear ta sa hb2
  go_wp2_with fail
  refine (rnew_any w2).mono ?_
  rintro e w3 ⟨rfl, hrt, hb3⟩
  have HPQ : Hid (PQ w w3 q0 w2.heap.size [] [] 0 0) := by
    have z1 := HB1.out.size
    have z2 := HB2.out.size
    exact ⟨S0, _, HTA.out.under hb3, hrt, TOk.nil, fun h => by have := HTA.out.below _ h; omega, (fun k hk => by cases hk), fun k hk => ⟨by have := HSA.out k hk; omega, by omega⟩, ⟨by omega, by omega⟩, HB1.out.trans ((HB2.out.mono z1).trans (hb3.mono (by omega))), Nat.zero_le _⟩
  clear hrt hb3 HTA HSA HB2 HB1
  generalize w2.heap.size = r at *
  go_wp2_with fail
  go_loopg [4, 6] 300 (fun kx s4 s6 wr => ∃ (i q : Nat) (T : Tb), i ≤ 300 ∧ 300 - i ≤ kx ∧ s6 = .int .i64 (i : Int) ∧ s4 = .pointer (some ⟨q, 0, none⟩) ∧ Hid (PQ w wr q r T T 0 0 ∧ cntT T ≤ i))
  case atStart => exact ⟨0, q0, [], by omega, by omega, rfl, rfl, HPQ.out, by simp [cntT]⟩
  case round =>
    obtain ⟨i, q, T, hi, hkx, rfl, rfl, HI⟩ := hrel
    clear HPQ
    have hcn := HI.out.2
    by_cases hil : i < ops.length ∧ i < 300
    · obtain ⟨hil, h2⟩ := hil
      have hil' : (i : Int) < (ops.length : Int) := by omega
      have h2' : (i : Int) < 300 := by omega
      obtain ⟨ob, of_, rfl, hobl, hoo, hoc⟩ := (HOPS.out.under HI.out.1.below).get2 i hil
      obtain ⟨o0, o1, o2, o3, o4, o5⟩ := hoc
      generalize ops[i] = o at *
      obtain ⟨k0, k1, k2, k3, k4, k5⟩ := hoo
      have hbA : Below wr.heap.size wr (wr.alloc (.cells #[.int .i64 o.kind, .int .i64 o.pid, .int .i64 o.ep, .int .i64 o.seq, .int .i64 o.n, .int .i64 o.off] 29)) := (Below.refl _ _).alloc (Nat.le_refl _) _
      have HQ0 := hid (HI.out.1.box hbA)
      have HO0 := hid (heap_alloc_new wr (.cells #[.int .i64 o.kind, .int .i64 o.pid, .int .i64 o.ep, .int .i64 o.seq, .int .i64 o.n, .int .i64 o.off] 29))
      have hz0 : (wr.alloc (.cells #[.int .i64 o.kind, .int .i64 o.pid, .int .i64 o.ep, .int .i64 o.seq, .int .i64 o.n, .int .i64 o.off] 29)).heap.size = wr.heap.size + 1 := by simp
      have HPk := hid (fun W => pick_any o.kind 9 W k0 (by omega) (by omega))
      have r0 := pickI_range o.kind 9 (by omega)
      have HKl := hid (keep_few HI.out.1.okA (by omega))
      clear hbA HI
      go_upto_region 10 with fail
      clear o0 o1 o2 o3 o4 o5
      generalize wr.alloc (.cells #[.int .i64 o.kind, .int .i64 o.pid, .int .i64 o.ep, .int .i64 o.seq, .int .i64 o.n, .int .i64 o.off] 29) = W0 at *
      generalize wr.heap.size = bx at *
      have HBx : Hid (bx ≤ bx ∧ bx < W0.heap.size) := ⟨Nat.le_refl _, by omega⟩
      obtain ⟨y0, y1, y2, y3, y4, y5⟩ := six29b HO0.out
      have HZ0 : Hid (bx ≤ W0.heap.size) := by show bx ≤ W0.heap.size; omega
      have hbne : ¬ bx = W0.heap.size := by omega
      have hbne' : ¬ W0.heap.size = bx := by omega
      clear hz0
      generalize pickI o.kind 9 = K at *
      go_wp2_with fail
      refine (HPk.out _).mono ?_
      rintro e w5 ⟨rfl, rfl⟩
      go_upto_block 2 with fail
      have HK9 : Hid (K = 0 ∨ K = 1 ∨ K = 2 ∨ K = 3 ∨ K = 4 ∨ K = 5 ∨ K = 6 ∨ K = 7 ∨ K = 8) := by show _ ∨ _; omega
      have HBt := hid (fun W (n : Nat) (hn : n ≤ 1000) => batch_at o.pid o.ep o.seq o.off n W hn)
      have HP70 := hid (fun W => pick_any o.n 70 W k4 (by omega) (by omega))
      have r70 := pickI_range o.n 70 (by omega)
      obtain ⟨n, hn⟩ : ∃ n : Nat, pickI o.n 70 = (n : Int) := ⟨(pickI o.n 70).toNat, by omega⟩
      rw [hn] at HP70 r70
      clear hn HPk r0
      have HBt := hid (fun W => HBt.out W n (by omega))
      go_cut [4, 8, 9, 10, 11, 12, 13, 14] from 24 to 140 (fun s4 s8 s9 s10 s11 s12 s13 s14 wx => ∃ (q' : Nat) (T' : Tb), s4 = .pointer (some ⟨q', 0, none⟩) ∧ Hid (PQ w wx q' r T' T' 0 0 ∧ cntT T' ≤ i + 1))
      case first =>
          rcases HK9.out with hp | hp | hp | hp | hp | hp | hp | hp | hp
          · subst hp
            as_aux_lemma =>
              go_upto_region 14 with fail
              go_cut [8] from 24 to 140 (fun s8 W => ∃ (p g : Nat), s8 = .pointer (some ⟨p, 0, none⟩) ∧ Hid (Below W0.heap.size W0 W ∧ W.heap[p]? = some (.cells #[.int .i64 o.off, .int .i64 0, .int .i64 o.pid, .int .i64 o.ep, .int .i64 o.seq, .slice (some ⟨g, 0, none⟩) n n] 33) ∧ Recs W (.slice (some ⟨g, 0, none⟩) n n) (zrecs n) ∧ (W0.heap.size ≤ p ∧ p < W.heap.size) ∧ (W0.heap.size ≤ g ∧ g < W.heap.size)))
              case first =>
                go_region_held3 (fun w' => w'.cell? ⟨bx, 1, none⟩ = some (.int .i64 o.pid) ∧ w'.cell? ⟨bx, 2, none⟩ = some (.int .i64 o.ep) ∧ w'.cell? ⟨bx, 3, none⟩ = some (.int .i64 o.seq) ∧ w'.cell? ⟨bx, 4, none⟩ = some (.int .i64 o.n) ∧ w'.cell? ⟨bx, 5, none⟩ = some (.int .i64 o.off)) (go_keep)
                  (first
                  | (go_at_call 10; refine (HP70.out _).mono ?_; rintro e w5 ⟨rfl, rfl⟩)
                  | (go_at_call 11; refine (HBt.out _).mono ?_; rintro e w5 ⟨g, rfl, hr5, ho5, hb5⟩; have HX5 : Hid (Boxed W0 w5 (.cells #[.int .i64 0, .int .i64 0, .int .i64 0, .int .i64 0, .int .i64 0, .slice none 0 0] 33)) := (by first | exact (Boxed.laid W0 _).next hb5 | exact ((Boxed.laid W0 _).next (Below.refl _ _).drew).next hb5); have HB5 : Hid (Below W0.heap.size W0 w5) := HX5.out.below; obtain ⟨p0, p1, p2, p3, p4, p5⟩ := six HX5.out; obtain ⟨f0, f1, f2, f3, f4, f5⟩ := six_frozen HX5.out; have HO5 : Hid (g ≠ W0.heap.size ∧ W0.heap.size ≤ g) := (by have h5 := ho5.1; simp at h5; exact ⟨by omega, by omega⟩); have HG5 := hid ho5.2; have HR5 := hid hr5; have HOb := hid ((HB5.out.block bx (lt_of_box HO0.out)).trans HO0.out); obtain ⟨_, b1, b2, b3, b4, b5⟩ := six29b HOb.out; clear hr5 ho5 hb5)
                  | (go_at_call 11; refine (HBt.out _).mono ?_; rintro e w5 ⟨g, rfl, hr5, ho5, hb5⟩; have HB5 : Hid (Below W0.heap.size W0 w5) := (by first | exact hb5 | exact (Below.refl _ _).drew.trans hb5); have HO5 : Hid (W0.heap.size ≤ g) := (by show W0.heap.size ≤ g; first | exact ho5.1 | (simp at ho5; omega)); have HG5 := hid ho5.2; have HR5 := hid hr5; have HOb := hid ((HB5.out.block bx (lt_of_box HO0.out)).trans HO0.out); obtain ⟨_, b1, b2, b3, b4, b5⟩ := six29b HOb.out; clear hr5 ho5 hb5)
                  | fail)
                all_goals
                  first
                  | (have HBX := hid (HX5.out.six (.int .i64 o.off) (.int .i64 0) (.int .i64 o.pid) (.int .i64 o.ep) (.int .i64 o.seq) (.slice (some ⟨g, 0, none⟩) n n))
                     have hrw := HR5.out.off (fun z hz => six_keep2 w5 W0.heap.size z (.int .i64 o.off) (.int .i64 0) (.int .i64 o.pid) (.int .i64 o.ep) (.int .i64 o.seq) (.slice (some ⟨g, 0, none⟩) n n) (by cases hz; exact HO5.out.1)) (by rw [six_size]; exact Nat.le_refl _)
                     have hgl : g < ((((((w5.setCell ⟨W0.heap.size, 0, none⟩ (.int .i64 o.off)).setCell ⟨W0.heap.size, 1, none⟩ (.int .i64 0)).setCell ⟨W0.heap.size, 2, none⟩ (.int .i64 o.pid)).setCell ⟨W0.heap.size, 3, none⟩ (.int .i64 o.ep)).setCell ⟨W0.heap.size, 4, none⟩ (.int .i64 o.seq)).setCell ⟨W0.heap.size, 5, none⟩ (.slice (some ⟨g, 0, none⟩) n n)).heap.size := by rw [six_size]; exact HG5.out
                     clear p0 p1 p2 p3 p4 p5 f0 f1 f2 f3 f4 f5 HX5
                     generalize ((((((w5.setCell ⟨W0.heap.size, 0, none⟩ (.int .i64 o.off)).setCell ⟨W0.heap.size, 1, none⟩ (.int .i64 0)).setCell ⟨W0.heap.size, 2, none⟩ (.int .i64 o.pid)).setCell ⟨W0.heap.size, 3, none⟩ (.int .i64 o.ep)).setCell ⟨W0.heap.size, 4, none⟩ (.int .i64 o.seq)).setCell ⟨W0.heap.size, 5, none⟩ (.slice (some ⟨g, 0, none⟩) n n)) = W at *
                     obtain ⟨p, hp⟩ : ∃ p, p = W0.heap.size := ⟨_, rfl⟩
                     have HQ : Hid (Below W0.heap.size W0 W ∧ W.heap[p]? = some (.cells #[.int .i64 o.off, .int .i64 0, .int .i64 o.pid, .int .i64 o.ep, .int .i64 o.seq, .slice (some ⟨g, 0, none⟩) n n] 33) ∧ Recs W (.slice (some ⟨g, 0, none⟩) n n) (zrecs n) ∧ (W0.heap.size ≤ p ∧ p < W.heap.size) ∧ (W0.heap.size ≤ g ∧ g < W.heap.size)) := ⟨HBX.out.below, by rw [hp]; exact HBX.out.box, hrw, ⟨by omega, by rw [hp]; exact HBX.out.lt⟩, ⟨HO5.out.2, hgl⟩⟩
                     rw [← hp]
                     clear HBX hrw hp hgl)
                  | (have hBX := Boxed.laid w5 (.cells #[.int .i64 o.off, .int .i64 0, .int .i64 o.pid, .int .i64 o.ep, .int .i64 o.seq, .slice (some ⟨g, 0, none⟩) n n] 33)
                     have hrw := HR5.out.under hBX.below
                     have hbw : Below W0.heap.size W0 (w5.alloc (.cells #[.int .i64 o.off, .int .i64 0, .int .i64 o.pid, .int .i64 o.ep, .int .i64 o.seq, .slice (some ⟨g, 0, none⟩) n n] 33)) := HB5.out.alloc HB5.out.size _
                     have hs5 := HB5.out.size
                     have hgl : g < (w5.alloc (.cells #[.int .i64 o.off, .int .i64 0, .int .i64 o.pid, .int .i64 o.ep, .int .i64 o.seq, .slice (some ⟨g, 0, none⟩) n n] 33)).heap.size := by have := HG5.out; simp; omega
                     generalize w5.alloc (.cells #[.int .i64 o.off, .int .i64 0, .int .i64 o.pid, .int .i64 o.ep, .int .i64 o.seq, .slice (some ⟨g, 0, none⟩) n n] 33) = W at *
                     obtain ⟨p, hp⟩ : ∃ p, p = w5.heap.size := ⟨_, rfl⟩
                     have HQ : Hid (Below W0.heap.size W0 W ∧ W.heap[p]? = some (.cells #[.int .i64 o.off, .int .i64 0, .int .i64 o.pid, .int .i64 o.ep, .int .i64 o.seq, .slice (some ⟨g, 0, none⟩) n n] 33) ∧ Recs W (.slice (some ⟨g, 0, none⟩) n n) (zrecs n) ∧ (W0.heap.size ≤ p ∧ p < W.heap.size) ∧ (W0.heap.size ≤ g ∧ g < W.heap.size)) := ⟨hbw, by rw [hp]; exact hBX.box, hrw, ⟨by omega, by rw [hp]; exact hBX.lt⟩, ⟨HO5.out, hgl⟩⟩
                     rw [← hp]
                     clear hBX hrw hbw hp hgl hs5)
                  go_wp2_with fail
                  go_meet
                  case rel => exact ⟨p, g, rfl, HQ.out⟩
              case rest =>
                obtain ⟨p, g, rfl, HQ⟩ := hcut
                generalize wc = W at *
                clear y0 y1 y2 y3 y4 y5
                obtain ⟨t0, t1, t2, t3, t4, t5⟩ := six33 HQ.out.2.1
                have HQw := hid (HQ0.out.wide HQ.out.1)
                have HN1 := hid (HQw.out.noteP o.pid o.ep o.seq o.off n g k1 k2 k3 k5 HQ.out.2.2.1 (by omega))
                go_wp2_with fail
                refine HN1.out.mono ?_
                rintro e w6 ⟨rfl, hq6, hs6⟩
                have hW6 : W.heap.size ≤ w6.heap.size := hq6.room
                have HP6 := hid ((hs6 p (Nat.le_trans HZ0.out HQ.out.2.2.2.1.1) HQ.out.2.2.2.1.2).trans HQ.out.2.1)
                have HR6 : Hid (Recs w6 (.slice (some ⟨g, 0, none⟩) n n) (zrecs n)) := HQ.out.2.2.1.off (fun z hz => by cases hz; exact hs6 g (Nat.le_trans HZ0.out HQ.out.2.2.2.2.1) HQ.out.2.2.2.2.2) hW6
                have HN2 := hid (hq6.noteR o.pid o.ep o.seq o.off n g k1 k2 k3 k5 HR6.out (by omega) hq6.okA)
                clear t0 t1 t2 t3 t4 t5
                obtain ⟨t0, t1, t2, t3, t4, t5⟩ := six33 HP6.out
                clear hq6 hs6 hW6 HN1 HR6
                go_wp2_with fail
                refine HN2.out.mono ?_
                rintro e w7 ⟨rfl, hq7, hs7⟩
                have HQ7 := hid hq7.forget
                have HC7 := hid (noteT_cnt HQ0.out.okU (batOf o.pid o.ep o.seq o.off n))
                clear hq7 hs7 HN2
                go_wp2_with fail
                go_meet
                case rel => exact ⟨q, _, rfl, HQ7.out, Nat.le_trans HC7.out (by omega)⟩
          · subst hp
            as_aux_lemma =>
              go_upto_region 14 with fail
              go_cut [8] from 24 to 140 (fun s8 W => ∃ (p g : Nat), s8 = .pointer (some ⟨p, 0, none⟩) ∧ Hid (Below W0.heap.size W0 W ∧ W.heap[p]? = some (.cells #[.int .i64 o.off, .int .i64 0, .int .i64 o.pid, .int .i64 o.ep, .int .i64 o.seq, .slice (some ⟨g, 0, none⟩) n n] 33) ∧ Recs W (.slice (some ⟨g, 0, none⟩) n n) (zrecs n) ∧ (W0.heap.size ≤ p ∧ p < W.heap.size) ∧ (W0.heap.size ≤ g ∧ g < W.heap.size)))
              case first =>
                go_region_held3 (fun w' => w'.cell? ⟨bx, 1, none⟩ = some (.int .i64 o.pid) ∧ w'.cell? ⟨bx, 2, none⟩ = some (.int .i64 o.ep) ∧ w'.cell? ⟨bx, 3, none⟩ = some (.int .i64 o.seq) ∧ w'.cell? ⟨bx, 4, none⟩ = some (.int .i64 o.n) ∧ w'.cell? ⟨bx, 5, none⟩ = some (.int .i64 o.off)) (go_keep)
                  (first
                  | (go_at_call 10; refine (HP70.out _).mono ?_; rintro e w5 ⟨rfl, rfl⟩)
                  | (go_at_call 11; refine (HBt.out _).mono ?_; rintro e w5 ⟨g, rfl, hr5, ho5, hb5⟩; have HX5 : Hid (Boxed W0 w5 (.cells #[.int .i64 0, .int .i64 0, .int .i64 0, .int .i64 0, .int .i64 0, .slice none 0 0] 33)) := (by first | exact (Boxed.laid W0 _).next hb5 | exact ((Boxed.laid W0 _).next (Below.refl _ _).drew).next hb5); have HB5 : Hid (Below W0.heap.size W0 w5) := HX5.out.below; obtain ⟨p0, p1, p2, p3, p4, p5⟩ := six HX5.out; obtain ⟨f0, f1, f2, f3, f4, f5⟩ := six_frozen HX5.out; have HO5 : Hid (g ≠ W0.heap.size ∧ W0.heap.size ≤ g) := (by have h5 := ho5.1; simp at h5; exact ⟨by omega, by omega⟩); have HG5 := hid ho5.2; have HR5 := hid hr5; have HOb := hid ((HB5.out.block bx (lt_of_box HO0.out)).trans HO0.out); obtain ⟨_, b1, b2, b3, b4, b5⟩ := six29b HOb.out; clear hr5 ho5 hb5)
                  | (go_at_call 11; refine (HBt.out _).mono ?_; rintro e w5 ⟨g, rfl, hr5, ho5, hb5⟩; have HB5 : Hid (Below W0.heap.size W0 w5) := (by first | exact hb5 | exact (Below.refl _ _).drew.trans hb5); have HO5 : Hid (W0.heap.size ≤ g) := (by show W0.heap.size ≤ g; first | exact ho5.1 | (simp at ho5; omega)); have HG5 := hid ho5.2; have HR5 := hid hr5; have HOb := hid ((HB5.out.block bx (lt_of_box HO0.out)).trans HO0.out); obtain ⟨_, b1, b2, b3, b4, b5⟩ := six29b HOb.out; clear hr5 ho5 hb5)
                  | fail)
                all_goals
                  first
                  | (have HBX := hid (HX5.out.six (.int .i64 o.off) (.int .i64 0) (.int .i64 o.pid) (.int .i64 o.ep) (.int .i64 o.seq) (.slice (some ⟨g, 0, none⟩) n n))
                     have hrw := HR5.out.off (fun z hz => six_keep2 w5 W0.heap.size z (.int .i64 o.off) (.int .i64 0) (.int .i64 o.pid) (.int .i64 o.ep) (.int .i64 o.seq) (.slice (some ⟨g, 0, none⟩) n n) (by cases hz; exact HO5.out.1)) (by rw [six_size]; exact Nat.le_refl _)
                     have hgl : g < ((((((w5.setCell ⟨W0.heap.size, 0, none⟩ (.int .i64 o.off)).setCell ⟨W0.heap.size, 1, none⟩ (.int .i64 0)).setCell ⟨W0.heap.size, 2, none⟩ (.int .i64 o.pid)).setCell ⟨W0.heap.size, 3, none⟩ (.int .i64 o.ep)).setCell ⟨W0.heap.size, 4, none⟩ (.int .i64 o.seq)).setCell ⟨W0.heap.size, 5, none⟩ (.slice (some ⟨g, 0, none⟩) n n)).heap.size := by rw [six_size]; exact HG5.out
                     clear p0 p1 p2 p3 p4 p5 f0 f1 f2 f3 f4 f5 HX5
                     generalize ((((((w5.setCell ⟨W0.heap.size, 0, none⟩ (.int .i64 o.off)).setCell ⟨W0.heap.size, 1, none⟩ (.int .i64 0)).setCell ⟨W0.heap.size, 2, none⟩ (.int .i64 o.pid)).setCell ⟨W0.heap.size, 3, none⟩ (.int .i64 o.ep)).setCell ⟨W0.heap.size, 4, none⟩ (.int .i64 o.seq)).setCell ⟨W0.heap.size, 5, none⟩ (.slice (some ⟨g, 0, none⟩) n n)) = W at *
                     obtain ⟨p, hp⟩ : ∃ p, p = W0.heap.size := ⟨_, rfl⟩
                     have HQ : Hid (Below W0.heap.size W0 W ∧ W.heap[p]? = some (.cells #[.int .i64 o.off, .int .i64 0, .int .i64 o.pid, .int .i64 o.ep, .int .i64 o.seq, .slice (some ⟨g, 0, none⟩) n n] 33) ∧ Recs W (.slice (some ⟨g, 0, none⟩) n n) (zrecs n) ∧ (W0.heap.size ≤ p ∧ p < W.heap.size) ∧ (W0.heap.size ≤ g ∧ g < W.heap.size)) := ⟨HBX.out.below, by rw [hp]; exact HBX.out.box, hrw, ⟨by omega, by rw [hp]; exact HBX.out.lt⟩, ⟨HO5.out.2, hgl⟩⟩
                     rw [← hp]
                     clear HBX hrw hp hgl)
                  | (have hBX := Boxed.laid w5 (.cells #[.int .i64 o.off, .int .i64 0, .int .i64 o.pid, .int .i64 o.ep, .int .i64 o.seq, .slice (some ⟨g, 0, none⟩) n n] 33)
                     have hrw := HR5.out.under hBX.below
                     have hbw : Below W0.heap.size W0 (w5.alloc (.cells #[.int .i64 o.off, .int .i64 0, .int .i64 o.pid, .int .i64 o.ep, .int .i64 o.seq, .slice (some ⟨g, 0, none⟩) n n] 33)) := HB5.out.alloc HB5.out.size _
                     have hs5 := HB5.out.size
                     have hgl : g < (w5.alloc (.cells #[.int .i64 o.off, .int .i64 0, .int .i64 o.pid, .int .i64 o.ep, .int .i64 o.seq, .slice (some ⟨g, 0, none⟩) n n] 33)).heap.size := by have := HG5.out; simp; omega
                     generalize w5.alloc (.cells #[.int .i64 o.off, .int .i64 0, .int .i64 o.pid, .int .i64 o.ep, .int .i64 o.seq, .slice (some ⟨g, 0, none⟩) n n] 33) = W at *
                     obtain ⟨p, hp⟩ : ∃ p, p = w5.heap.size := ⟨_, rfl⟩
                     have HQ : Hid (Below W0.heap.size W0 W ∧ W.heap[p]? = some (.cells #[.int .i64 o.off, .int .i64 0, .int .i64 o.pid, .int .i64 o.ep, .int .i64 o.seq, .slice (some ⟨g, 0, none⟩) n n] 33) ∧ Recs W (.slice (some ⟨g, 0, none⟩) n n) (zrecs n) ∧ (W0.heap.size ≤ p ∧ p < W.heap.size) ∧ (W0.heap.size ≤ g ∧ g < W.heap.size)) := ⟨hbw, by rw [hp]; exact hBX.box, hrw, ⟨by omega, by rw [hp]; exact hBX.lt⟩, ⟨HO5.out, hgl⟩⟩
                     rw [← hp]
                     clear hBX hrw hbw hp hgl hs5)
                  go_wp2_with fail
                  go_meet
                  case rel => exact ⟨p, g, rfl, HQ.out⟩
              case rest =>
                obtain ⟨p, g, rfl, HQ⟩ := hcut
                generalize wc = W at *
                clear y0 y1 y2 y3 y4 y5
                obtain ⟨t0, t1, t2, t3, t4, t5⟩ := six33 HQ.out.2.1
                have HQw := hid (HQ0.out.wide HQ.out.1)
                have HN1 := hid (HQw.out.noteP o.pid o.ep o.seq o.off n g k1 k2 k3 k5 HQ.out.2.2.1 (by omega))
                go_wp2_with fail
                refine HN1.out.mono ?_
                rintro e w6 ⟨rfl, hq6, hs6⟩
                have hW6 : W.heap.size ≤ w6.heap.size := hq6.room
                have HP6 := hid ((hs6 p (Nat.le_trans HZ0.out HQ.out.2.2.2.1.1) HQ.out.2.2.2.1.2).trans HQ.out.2.1)
                have HR6 : Hid (Recs w6 (.slice (some ⟨g, 0, none⟩) n n) (zrecs n)) := HQ.out.2.2.1.off (fun z hz => by cases hz; exact hs6 g (Nat.le_trans HZ0.out HQ.out.2.2.2.2.1) HQ.out.2.2.2.2.2) hW6
                have HN2 := hid (hq6.noteR o.pid o.ep o.seq o.off n g k1 k2 k3 k5 HR6.out (by omega) hq6.okA)
                clear t0 t1 t2 t3 t4 t5
                obtain ⟨t0, t1, t2, t3, t4, t5⟩ := six33 HP6.out
                clear hq6 hs6 hW6 HN1 HR6
                go_wp2_with fail
                refine HN2.out.mono ?_
                rintro e w7 ⟨rfl, hq7, hs7⟩
                have HQ7 := hid hq7.forget
                have HC7 := hid (noteT_cnt HQ0.out.okU (batOf o.pid o.ep o.seq o.off n))
                clear hq7 hs7 HN2
                go_wp2_with fail
                go_meet
                case rel => exact ⟨q, _, rfl, HQ7.out, Nat.le_trans HC7.out (by omega)⟩
          · subst hp
            as_aux_lemma =>
              go_upto_region 14 with fail
              go_cut [8] from 24 to 140 (fun s8 W => ∃ (p g : Nat), s8 = .pointer (some ⟨p, 0, none⟩) ∧ Hid (Below W0.heap.size W0 W ∧ W.heap[p]? = some (.cells #[.int .i64 o.off, .int .i64 0, .int .i64 o.pid, .int .i64 o.ep, .int .i64 o.seq, .slice (some ⟨g, 0, none⟩) n n] 33) ∧ Recs W (.slice (some ⟨g, 0, none⟩) n n) (zrecs n) ∧ (W0.heap.size ≤ p ∧ p < W.heap.size) ∧ (W0.heap.size ≤ g ∧ g < W.heap.size)))
              case first =>
                go_region_held3 (fun w' => w'.cell? ⟨bx, 1, none⟩ = some (.int .i64 o.pid) ∧ w'.cell? ⟨bx, 2, none⟩ = some (.int .i64 o.ep) ∧ w'.cell? ⟨bx, 3, none⟩ = some (.int .i64 o.seq) ∧ w'.cell? ⟨bx, 4, none⟩ = some (.int .i64 o.n) ∧ w'.cell? ⟨bx, 5, none⟩ = some (.int .i64 o.off)) (go_keep)
                  (first
                  | (go_at_call 10; refine (HP70.out _).mono ?_; rintro e w5 ⟨rfl, rfl⟩)
                  | (go_at_call 11; refine (HBt.out _).mono ?_; rintro e w5 ⟨g, rfl, hr5, ho5, hb5⟩; have HX5 : Hid (Boxed W0 w5 (.cells #[.int .i64 0, .int .i64 0, .int .i64 0, .int .i64 0, .int .i64 0, .slice none 0 0] 33)) := (by first | exact (Boxed.laid W0 _).next hb5 | exact ((Boxed.laid W0 _).next (Below.refl _ _).drew).next hb5); have HB5 : Hid (Below W0.heap.size W0 w5) := HX5.out.below; obtain ⟨p0, p1, p2, p3, p4, p5⟩ := six HX5.out; obtain ⟨f0, f1, f2, f3, f4, f5⟩ := six_frozen HX5.out; have HO5 : Hid (g ≠ W0.heap.size ∧ W0.heap.size ≤ g) := (by have h5 := ho5.1; simp at h5; exact ⟨by omega, by omega⟩); have HG5 := hid ho5.2; have HR5 := hid hr5; have HOb := hid ((HB5.out.block bx (lt_of_box HO0.out)).trans HO0.out); obtain ⟨_, b1, b2, b3, b4, b5⟩ := six29b HOb.out; clear hr5 ho5 hb5)
                  | (go_at_call 11; refine (HBt.out _).mono ?_; rintro e w5 ⟨g, rfl, hr5, ho5, hb5⟩; have HB5 : Hid (Below W0.heap.size W0 w5) := (by first | exact hb5 | exact (Below.refl _ _).drew.trans hb5); have HO5 : Hid (W0.heap.size ≤ g) := (by show W0.heap.size ≤ g; first | exact ho5.1 | (simp at ho5; omega)); have HG5 := hid ho5.2; have HR5 := hid hr5; have HOb := hid ((HB5.out.block bx (lt_of_box HO0.out)).trans HO0.out); obtain ⟨_, b1, b2, b3, b4, b5⟩ := six29b HOb.out; clear hr5 ho5 hb5)
                  | fail)
                all_goals
                  first
                  | (have HBX := hid (HX5.out.six (.int .i64 o.off) (.int .i64 0) (.int .i64 o.pid) (.int .i64 o.ep) (.int .i64 o.seq) (.slice (some ⟨g, 0, none⟩) n n))
                     have hrw := HR5.out.off (fun z hz => six_keep2 w5 W0.heap.size z (.int .i64 o.off) (.int .i64 0) (.int .i64 o.pid) (.int .i64 o.ep) (.int .i64 o.seq) (.slice (some ⟨g, 0, none⟩) n n) (by cases hz; exact HO5.out.1)) (by rw [six_size]; exact Nat.le_refl _)
                     have hgl : g < ((((((w5.setCell ⟨W0.heap.size, 0, none⟩ (.int .i64 o.off)).setCell ⟨W0.heap.size, 1, none⟩ (.int .i64 0)).setCell ⟨W0.heap.size, 2, none⟩ (.int .i64 o.pid)).setCell ⟨W0.heap.size, 3, none⟩ (.int .i64 o.ep)).setCell ⟨W0.heap.size, 4, none⟩ (.int .i64 o.seq)).setCell ⟨W0.heap.size, 5, none⟩ (.slice (some ⟨g, 0, none⟩) n n)).heap.size := by rw [six_size]; exact HG5.out
                     clear p0 p1 p2 p3 p4 p5 f0 f1 f2 f3 f4 f5 HX5
                     generalize ((((((w5.setCell ⟨W0.heap.size, 0, none⟩ (.int .i64 o.off)).setCell ⟨W0.heap.size, 1, none⟩ (.int .i64 0)).setCell ⟨W0.heap.size, 2, none⟩ (.int .i64 o.pid)).setCell ⟨W0.heap.size, 3, none⟩ (.int .i64 o.ep)).setCell ⟨W0.heap.size, 4, none⟩ (.int .i64 o.seq)).setCell ⟨W0.heap.size, 5, none⟩ (.slice (some ⟨g, 0, none⟩) n n)) = W at *
                     obtain ⟨p, hp⟩ : ∃ p, p = W0.heap.size := ⟨_, rfl⟩
                     have HQ : Hid (Below W0.heap.size W0 W ∧ W.heap[p]? = some (.cells #[.int .i64 o.off, .int .i64 0, .int .i64 o.pid, .int .i64 o.ep, .int .i64 o.seq, .slice (some ⟨g, 0, none⟩) n n] 33) ∧ Recs W (.slice (some ⟨g, 0, none⟩) n n) (zrecs n) ∧ (W0.heap.size ≤ p ∧ p < W.heap.size) ∧ (W0.heap.size ≤ g ∧ g < W.heap.size)) := ⟨HBX.out.below, by rw [hp]; exact HBX.out.box, hrw, ⟨by omega, by rw [hp]; exact HBX.out.lt⟩, ⟨HO5.out.2, hgl⟩⟩
                     rw [← hp]
                     clear HBX hrw hp hgl)
                  | (have hBX := Boxed.laid w5 (.cells #[.int .i64 o.off, .int .i64 0, .int .i64 o.pid, .int .i64 o.ep, .int .i64 o.seq, .slice (some ⟨g, 0, none⟩) n n] 33)
                     have hrw := HR5.out.under hBX.below
                     have hbw : Below W0.heap.size W0 (w5.alloc (.cells #[.int .i64 o.off, .int .i64 0, .int .i64 o.pid, .int .i64 o.ep, .int .i64 o.seq, .slice (some ⟨g, 0, none⟩) n n] 33)) := HB5.out.alloc HB5.out.size _
                     have hs5 := HB5.out.size
                     have hgl : g < (w5.alloc (.cells #[.int .i64 o.off, .int .i64 0, .int .i64 o.pid, .int .i64 o.ep, .int .i64 o.seq, .slice (some ⟨g, 0, none⟩) n n] 33)).heap.size := by have := HG5.out; simp; omega
                     generalize w5.alloc (.cells #[.int .i64 o.off, .int .i64 0, .int .i64 o.pid, .int .i64 o.ep, .int .i64 o.seq, .slice (some ⟨g, 0, none⟩) n n] 33) = W at *
                     obtain ⟨p, hp⟩ : ∃ p, p = w5.heap.size := ⟨_, rfl⟩
                     have HQ : Hid (Below W0.heap.size W0 W ∧ W.heap[p]? = some (.cells #[.int .i64 o.off, .int .i64 0, .int .i64 o.pid, .int .i64 o.ep, .int .i64 o.seq, .slice (some ⟨g, 0, none⟩) n n] 33) ∧ Recs W (.slice (some ⟨g, 0, none⟩) n n) (zrecs n) ∧ (W0.heap.size ≤ p ∧ p < W.heap.size) ∧ (W0.heap.size ≤ g ∧ g < W.heap.size)) := ⟨hbw, by rw [hp]; exact hBX.box, hrw, ⟨by omega, by rw [hp]; exact hBX.lt⟩, ⟨HO5.out, hgl⟩⟩
                     rw [← hp]
                     clear hBX hrw hbw hp hgl hs5)
                  go_wp2_with fail
                  go_meet
                  case rel => exact ⟨p, g, rfl, HQ.out⟩
              case rest =>
                obtain ⟨p, g, rfl, HQ⟩ := hcut
                generalize wc = W at *
                clear y0 y1 y2 y3 y4 y5
                obtain ⟨t0, t1, t2, t3, t4, t5⟩ := six33 HQ.out.2.1
                have HQw := hid (HQ0.out.wide HQ.out.1)
                have HN1 := hid (HQw.out.noteP o.pid o.ep o.seq o.off n g k1 k2 k3 k5 HQ.out.2.2.1 (by omega))
                go_wp2_with fail
                refine HN1.out.mono ?_
                rintro e w6 ⟨rfl, hq6, hs6⟩
                have hW6 : W.heap.size ≤ w6.heap.size := hq6.room
                have HP6 := hid ((hs6 p (Nat.le_trans HZ0.out HQ.out.2.2.2.1.1) HQ.out.2.2.2.1.2).trans HQ.out.2.1)
                have HR6 : Hid (Recs w6 (.slice (some ⟨g, 0, none⟩) n n) (zrecs n)) := HQ.out.2.2.1.off (fun z hz => by cases hz; exact hs6 g (Nat.le_trans HZ0.out HQ.out.2.2.2.2.1) HQ.out.2.2.2.2.2) hW6
                have HN2 := hid (hq6.noteR o.pid o.ep o.seq o.off n g k1 k2 k3 k5 HR6.out (by omega) hq6.okA)
                clear t0 t1 t2 t3 t4 t5
                obtain ⟨t0, t1, t2, t3, t4, t5⟩ := six33 HP6.out
                clear hq6 hs6 hW6 HN1 HR6
                go_wp2_with fail
                refine HN2.out.mono ?_
                rintro e w7 ⟨rfl, hq7, hs7⟩
                have HQ7 := hid hq7.forget
                have HC7 := hid (noteT_cnt HQ0.out.okU (batOf o.pid o.ep o.seq o.off n))
                clear hq7 hs7 HN2
                go_wp2_with fail
                go_meet
                case rel => exact ⟨q, _, rfl, HQ7.out, Nat.le_trans HC7.out (by omega)⟩
          · subst hp
            as_aux_lemma =>
              have HA := hid (HQ0.out.askP o.pid o.ep o.seq o.n k1 k2 k3 k4)
              go_wp2_with fail
              refine HA.out.mono ?_
              rintro e w6 ⟨rfl, hb6⟩
              have HQ6 := hid (HQ0.out.under hb6)
              have HO6 := hid ((hb6.block bx (lt_of_box HO0.out)).trans HO0.out)
              clear hb6 HA y0 y1 y2 y3 y4 y5
              obtain ⟨y0, y1, y2, y3, y4, y5⟩ := six29b HO6.out
              have HA := hid (HQ6.out.askR o.pid o.ep o.seq o.n k1 k2 k3 k4)
              generalize askL (tget T o.pid) o.pid o.ep o.seq o.n = AV at *
              obtain ⟨av, ev⟩ := AV
              simp only at HA ⊢
              go_wp2_with fail
              refine HA.out.mono ?_
              rintro e w7 ⟨rfl, hb7⟩
              have HQ7 := hid (HQ6.out.under hb7).forget
              clear hb7 HA
              go_wp2_with fail
              go_meet
              case rel => exact ⟨q, T, rfl, HQ7.out, by omega⟩
          · subst hp
            as_aux_lemma =>
              have HA := hid (HQ0.out.askP o.pid o.ep o.seq o.n k1 k2 k3 k4)
              go_wp2_with fail
              refine HA.out.mono ?_
              rintro e w6 ⟨rfl, hb6⟩
              have HQ6 := hid (HQ0.out.under hb6)
              have HO6 := hid ((hb6.block bx (lt_of_box HO0.out)).trans HO0.out)
              clear hb6 HA y0 y1 y2 y3 y4 y5
              obtain ⟨y0, y1, y2, y3, y4, y5⟩ := six29b HO6.out
              have HA := hid (HQ6.out.askR o.pid o.ep o.seq o.n k1 k2 k3 k4)
              generalize askL (tget T o.pid) o.pid o.ep o.seq o.n = AV at *
              obtain ⟨av, ev⟩ := AV
              simp only at HA ⊢
              go_wp2_with fail
              refine HA.out.mono ?_
              rintro e w7 ⟨rfl, hb7⟩
              have HQ7 := hid (HQ6.out.under hb7).forget
              clear hb7 HA
              go_wp2_with fail
              go_meet
              case rel => exact ⟨q, T, rfl, HQ7.out, by omega⟩
          · subst hp
            as_aux_lemma =>
              have HA := hid (HQ0.out.askP o.pid o.ep o.seq o.n k1 k2 k3 k4)
              go_wp2_with fail
              refine HA.out.mono ?_
              rintro e w6 ⟨rfl, hb6⟩
              have HQ6 := hid (HQ0.out.under hb6)
              have HO6 := hid ((hb6.block bx (lt_of_box HO0.out)).trans HO0.out)
              clear hb6 HA y0 y1 y2 y3 y4 y5
              obtain ⟨y0, y1, y2, y3, y4, y5⟩ := six29b HO6.out
              have HA := hid (HQ6.out.askR o.pid o.ep o.seq o.n k1 k2 k3 k4)
              generalize askL (tget T o.pid) o.pid o.ep o.seq o.n = AV at *
              obtain ⟨av, ev⟩ := AV
              simp only at HA ⊢
              go_wp2_with fail
              refine HA.out.mono ?_
              rintro e w7 ⟨rfl, hb7⟩
              have HQ7 := hid (HQ6.out.under hb7).forget
              clear hb7 HA
              go_wp2_with fail
              go_meet
              case rel => exact ⟨q, T, rfl, HQ7.out, by omega⟩
          · subst hp
            as_aux_lemma =>
              have HA := hid (HQ0.out.cutP o.off)
              go_wp2_with fail
              refine HA.out.mono ?_
              rintro e w6 ⟨rfl, hq6, hs6⟩
              have HQ6 := hid hq6
              have HO6 := hid ((hs6 bx HBx.out.1 HBx.out.2).trans HO0.out)
              have HB := hid (hq6.cutR o.off hq6.okA)
              clear hq6 hs6 HA y0 y1 y2 y3 y4 y5
              obtain ⟨y0, y1, y2, y3, y4, y5⟩ := six29b HO6.out
              go_wp2_with fail
              refine HB.out.mono ?_
              rintro e w7 ⟨rfl, hq7, hs7⟩
              have HQ7 := hid hq7.forget
              clear hq7 hs7 HB
              go_wp2_with fail
              go_meet
              case rel => exact ⟨q, _, rfl, HQ7.out, Nat.le_trans (cut_cnt o.off T) (by omega)⟩
          · subst hp
            as_aux_lemma =>
              have HA := hid (HQ0.out.delP o.off)
              go_wp2_with fail
              refine HA.out.mono ?_
              rintro e w6 ⟨rfl, hq6, hs6⟩
              have HQ6 := hid hq6
              have HO6 := hid ((hs6 bx HBx.out.1 HBx.out.2).trans HO0.out)
              have HB := hid (hq6.delR o.off hq6.okA)
              clear hq6 hs6 HA y0 y1 y2 y3 y4 y5
              obtain ⟨y0, y1, y2, y3, y4, y5⟩ := six29b HO6.out
              go_wp2_with fail
              refine HB.out.mono ?_
              rintro e w7 ⟨rfl, hq7, hs7⟩
              have HQ7 := hid hq7.forget
              clear hq7 hs7 HB
              go_wp2_with fail
              go_meet
              case rel => exact ⟨q, _, rfl, HQ7.out, Nat.le_trans (short_cnt HQ0.out.okU o.off) (by omega)⟩
          · subst hp
            as_aux_lemma =>
              have HA := hid HQ0.out.keepP
              go_wp2_with fail
              refine HA.out.mono ?_
              rintro e w6 ⟨rfl, hb6⟩
              have HQ6 := hid (HQ0.out.under hb6)
              have HL := hid ((HQ0.out.under hb6).load HKl.out)
              clear hb6 HA
              go_wp2_with fail
              refine HL.out.mono ?_
              rintro e w7 ⟨q', rfl, hq7, hb7⟩
              have HQ7 := hid hq7.forget
              clear hq7 hb7 HL
              go_wp2_with fail
              go_meet
              case rel => exact ⟨q', T, rfl, HQ7.out, by omega⟩
      case rest =>
        obtain ⟨q', T', rfl, HJ⟩ := hcut
        generalize wc = w8 at *
        have HK1 := hid HJ.out.1.keepP
        go_wp2_with fail
        refine HK1.out.mono ?_
        rintro e w9 ⟨rfl, hb9⟩
        have HQ9 := hid (HJ.out.1.under hb9)
        have HK2 := hid (HJ.out.1.under hb9).keepR
        clear hb9 HK1
        go_wp2_with fail
        refine HK2.out.mono ?_
        rintro e w10 ⟨rfl, hb10⟩
        have HQ10 := hid (HQ9.out.under hb10)
        have hc10 := HJ.out.2
        clear hb10 HK2 HJ
        go_wp2_with fail
        go_roundg (300 - (i + 1))
        case measure => omega
        case rel => exact ⟨i + 1, q', T', by omega, Nat.le_refl _, by go_num, rfl, HQ10.out, hc10⟩
    · have HBF := hid HI.out.1.below
      by_cases hil2 : i < ops.length
      · have hil' : (i : Int) < (ops.length : Int) := by omega
        have h2' : ¬ (i : Int) < 300 := by omega
        go_wp2_with fail
        go_ret
        exact ⟨rfl, HBF.out⟩
      · have hil' : ¬ (i : Int) < (ops.length : Int) := by omega
        go_wp2_with fail
        go_ret
        exact ⟨rfl, HBF.out⟩
end Go.Proofs.Ytkdbclnnmpnfgaa

