/- RaftlogSurvives: its walk. -/
import Derived.Test.YtclldpecbocclaaGreatKS1
import Derived.Test.YtclldpecbocclaaGreatKO1
import Derived.BigQuiet
import Derived.Deep.CutRange
import Derived.Deep.CutBlock
namespace Go.Proofs.YtclldpecbocclaaGreat
open Go.RowKit Go.Maps
set_option maxRecDepth 100000
set_option linter.unusedSimpArgs false
set_option linter.unusedVariables false

theorem OpsAt.under {w w1 : World} {so : Option Addr} {ops : List OpV} (h : OpsAt w so ops) (hb : Below w.heap.size w w1) (k : Nat) (hk : k < ops.length) : ∃ b off, so = some ⟨b, off, none⟩ ∧ ops[k].ok w ∧ ∀ j u, (ops[k].cells)[j]? = some u → w1.cell? ⟨b, off + k * 7 + j, none⟩ = some u := by
  rcases h with h | ⟨b, off, e, hlt, hc⟩
  · subst h; simp at hk
  · obtain ⟨h1, h2⟩ := hc k hk
    exact ⟨b, off, e, h1, fun j u hu => (hb.cell hlt).trans (h2 j u hu)⟩
theorem box7s {W : World} {b : Nat} {u0 u1 u2 u3 u4 u5 u6 : Value} {T : TypeId} (h : W.heap[b]? = some (.cells #[u0, u1, u2, u3, u4, u5, u6] T)) : W.cell? ⟨b, 0, none⟩ = some u0 ∧ W.cell? ⟨b, 1, none⟩ = some u1 ∧ W.cell? ⟨b, 2, none⟩ = some u2 ∧ W.cell? ⟨b, 6, none⟩ = some u6 :=
  ⟨cell_at h rfl, cell_at h rfl, cell_at h rfl, cell_at h rfl⟩
set_option maxHeartbeats 20000000 in
theorem survives_walk (w : World) (so : Option Addr) (scap : Nat) (ops : List OpV) (ho : OpsAt w so ops) (hol : ops.length ≤ maxLen) :
    Calls Tryz.prog 3 #[.slice so ops.length scap] w fun e w' => e = .returned (.bool true) ∧ Below w.heap.size w w' := by
  have HO := hid ho
  have HS := hid (shown_any w)
  have hol' : ops.length ≤ 9223372036854775807 := by unfold maxLen at hol; omega
  clear ho hol
  go_enter Tryz.func3, Tryz.ntmps3
  go_wp2_with fail
  refine HS.out.mono ?_
  rintro e w1 ⟨rfl, hb1⟩
  have HN := hid (newA 1000000 w1 (by omega) (by omega))
  have HB1 := hid hb1
  clear HS hb1
  go_wp2_with fail
  refine HN.out.mono ?_
  rintro e w2 ⟨rfl, hd2, hb2⟩
  have HL := hid (LF.new hd2 w (HB1.out.trans (hb2.mono HB1.out.size)) (fun k hk => by have := HB1.out.size; omega))
  clear HN hb2 hd2
  go_wp2_with fail
  refine HL.out.mono ?_
  rintro e w3 ⟨rfl, h3⟩
  obtain ⟨q0, hq⟩ : ∃ q, q = w2.heap.size := ⟨_, rfl⟩
  rw [← hq] at h3 ⊢
  obtain ⟨a, ha⟩ : ∃ a, a = w1.heap.size := ⟨_, rfl⟩
  rw [← ha] at h3 ⊢
  have C3 := hid h3
  clear h3 HL hq ha HB1
  go_wp2_with fail
  go_loopg [6, 7] 60 (fun kx s6 s7 wr => ∃ (k : Nat) (q : Nat), k ≤ 60 ∧ k ≤ ops.length ∧ 60 - k ≤ kx ∧ s7 = .int .i64 (k : Int) ∧ s6 = .pointer (some ⟨q, 0, none⟩) ∧ Hid (∃ s, LF w wr NoB q a 1000000 s))
  case atStart => exact ⟨0, q0, by omega, by omega, by omega, rfl, rfl, _, C3.out⟩
  case round =>
    obtain ⟨k, q, hk, hkl, hkx, rfl, rfl, HI⟩ := hrel
    clear C3
    obtain ⟨s, hs0⟩ := HI.out
    have CS := hid hs0
    clear HI hs0
    by_cases hlt : k < ops.length
    · have hlt' : (k : Int) < (ops.length : Int) := by omega
      by_cases h60 : k < 60
      · have h60' : (k : Int) < 60 := by omega
        obtain ⟨sb, off, rfl, hok, hcc⟩ := HO.out.under CS.out.below k hlt
        have y0 := hcc 0 _ rfl
        have y1 := hcc 1 _ rfl
        have y2 := hcc 2 _ rfl
        have y3 := hcc 3 _ rfl
        have y4 := hcc 4 _ rfl
        have y5 := hcc 5 _ rfl
        have y6 := hcc 6 _ rfl
        simp only [Nat.add_zero] at y0
        clear hcc
        generalize ops[k] = x at *
        obtain ⟨kind, N, M, text, la, lc, l, fits, ka, kc, kl⟩ := x
        obtain ⟨o1, o2, o3, o4, _, o6, o7, _, o9⟩ := hok
        simp only at *
        have HKL := hid o9
        clear o9
        have hbA : Below wr.heap.size wr (wr.alloc (.cells #[.int .i64 kind, .int .i64 N, .int .i64 M, .string (strOf text), .slice la l.length lc, .bool fits, .slice ka kl.length kc] 34)) := (Below.refl _ _).alloc (Nat.le_refl _) _
        have HBX := hid (heap_alloc_new wr (.cells #[.int .i64 kind, .int .i64 N, .int .i64 M, .string (strOf text), .slice la l.length lc, .bool fits, .slice ka kl.length kc] 34))
        obtain ⟨b, hbe⟩ : ∃ b, b = wr.heap.size := ⟨_, rfl⟩
        have C1 := hid (CS.out.with hbA (fun z => z = b) (fun z hz => .inr ⟨by omega, by subst hz; rw [hbe]; simp⟩))
        rw [← hbe] at HBX
        have H7 := hid C1.out.term
        have H8 := hid C1.out.vote
        have H9 := hid C1.out.last
        clear hbA
        go_wp2_with fail
        rw [← hbe]
        clear hbe CS
        generalize wr.alloc (.cells #[.int .i64 kind, .int .i64 N, .int .i64 M, .string (strOf text), .slice la l.length lc, .bool fits, .slice ka kl.length kc] 34) = W1 at *
        refine H7.out.mono ?_
        rintro e w4 ⟨rfl, rfl⟩
        clear y0 y1 y2 y3 y4 y5 y6
        go_wp2_with fail
        refine H8.out.mono ?_
        rintro e w5 ⟨rfl, rfl⟩
        go_wp2_with fail
        refine H9.out.mono ?_
        rintro e w6 ⟨rfl, hb6⟩
        have C6 := hid (C1.out.under hb6)
        have HBX6 := hid ((hb6.block b (lt_blk HBX.out)).trans HBX.out)
        clear hb6 HBX H7 H8 H9 C1
        obtain ⟨z0, z1, z2, z6⟩ := box7s HBX6.out
        have HP := hid (fun W => pick_any kind 3 W o1.1 o1.2 (by omega) (by omega))
        have hpr := pickI_range kind 3 (by omega)
        generalize pickI kind 3 = P at *
        go_wp2_with fail
        refine (HP.out _).mono ?_
        rintro e w7 ⟨rfl, rfl⟩
        have hlast := C6.out.ok.last
        have hlb := C6.out.lb
        have hi0 := hlb.i0
        have hi1 := hlb.i1
        have hi2 := hlb.len
        have HEt : Hid (0 ≤ (lastE s).t ∧ (lastE s).t ≤ 1000000000) := by
          rw [lastE_eq]
          cases hg : s.list.getLast? with
          | none => exact C6.out.ok.srng.1
          | some y =>
            have := (C6.out.ok.rng y (List.mem_of_getLast? hg)).1
            exact ⟨by simp; omega, by simp; omega⟩
        have et0 := HEt.out.1
        have et1 := HEt.out.2
        generalize hEE : lastE s = E at *
        clear hEE HEt
        have e1 : 0 ≤ E.i := by omega
        have e2 : E.i ≤ 1100000000 := by omega
        clear hlast hlb
        go_upto_block 2 with fail
        go_cut [13, 14] from 54 to 278 (fun s13 s14 W2 => Hid (∃ s', SR w W2 b q a s s' (.cells #[.int .i64 kind, .int .i64 N, .int .i64 M, .string (strOf text), .slice la l.length lc, .bool fits, .slice ka kl.length kc] 34)))
        case first =>
          by_cases hP0 : P = 0
          · subst hP0
            as_aux_lemma =>
              obtain ⟨n4, hn4⟩ : ∃ n : Nat, (n : Int) = pickI N 4 := ⟨(pickI N 4).toNat, by have := pickI_range N 4 (by omega); omega⟩
              have r4 := pickI_range N 4 (by omega)
              have r2 := pickI_range M 2 (by omega)
              have HPk : Hid (∀ W c m, (c = N ∧ m = 4) ∨ (c = M ∧ m = 2) → Calls Tryz.prog 10 #[.int .i64 c, .int .i64 m] W fun e w' => e = .returned (.int .i64 (pickI c m)) ∧ W = w') := fun W c m h => by
                rcases h with ⟨rfl, rfl⟩ | ⟨rfl, rfl⟩
                · exact pick_any _ 4 W o2.1 o2.2 (by omega) (by omega)
                · exact pick_any _ 2 W o3.1 o3.2 (by omega) (by omega)
              have hwT : IntKind.i64.wrap (E.t + pickI M 2) = E.t + pickI M 2 := IntWalk.i64_in _ ⟨by omega, by omega⟩
              have HCE : Hid (∀ W, Below w6.heap.size w6 W → W.cell? ⟨b, 1, none⟩ = some (.int .i64 N) ∧ W.cell? ⟨b, 2, none⟩ = some (.int .i64 M)) := fun W hW => by
                obtain ⟨_, c1, c2, _⟩ := box7s ((hW.block b (lt_blk HBX6.out)).trans HBX6.out)
                exact ⟨c1, c2⟩
              have H12 : Hid (∀ W, Below w6.heap.size w6 W → Calls Tryz.prog 12 #[.int .i64 E.i, .int .i64 (pickI N 4), .int .i64 (E.t + pickI M 2)] W fun e w' => ∃ v', e = .returned v' ∧ Hid (EL w' v' (someL E.i n4 (E.t + pickI M 2)) ∧ (∀ k, v'.ownBlock = some k → w6.heap.size ≤ k) ∧ Below w6.heap.size w6 w')) := fun W hW => by rw [← hn4]; exact (some_any E.i n4 (E.t + pickI M 2) W (by omega) (by omega) (by omega)).mono fun e w' ⟨v', g1, g2, g3, g4⟩ => ⟨v', g1, g2, fun k hk => Nat.le_trans hW.size (g3 k hk), hW.trans (g4.mono hW.size)⟩
              have H11 : Hid (∀ W v, Hid (EL W v (someL E.i n4 (E.t + pickI M 2)) ∧ (∀ k, v.ownBlock = some k → w6.heap.size ≤ k) ∧ Below w6.heap.size w6 W) → Calls Tryz.prog 11 #[.pointer (some ⟨q, 0, none⟩), .int .i64 E.i, v] W fun e w' => (∃ c : Int, e = .returned (.int .i64 c)) ∧ Hid (∃ s', SR w w' b q a s s' (.cells #[.int .i64 kind, .int .i64 N, .int .i64 M, .string (strOf text), .slice la l.length lc, .bool fits, .slice ka kl.length kc] 34))) := fun W v hv => SR.putRow C6.out HBX6.out hv.out.2.2 hv.out.1 hv.out.2.1 (by rw [someL_length]; omega) E.i
              clear hn4
              go_wp2_with fail
              go_region_held3 (fun w' => w'.cell? ⟨b, 1, none⟩ = some (.int .i64 N) ∧ w'.cell? ⟨b, 2, none⟩ = some (.int .i64 M)) (first | exact ⟨z1, z2⟩ | exact ⟨p1, p2⟩ | go_keep)
                (first
                | (go_at_call 10; refine (HPk.out _ _ _ (by simp)).mono ?_; rintro e w8 ⟨rfl, rfl⟩)
                | (go_at_call 12; refine (H12.out _ (by repeat (first | exact Below.refl _ _ | apply Below.drew))).mono ?_; rintro e w9 ⟨v9, rfl, HV9⟩; obtain ⟨oa9, cap9, rfl, _, _, _, _⟩ := HV9.out.1.shape; obtain ⟨p1, p2⟩ := HCE.out _ HV9.out.2.2)
                | (go_at_call 11; refine (H11.out _ _ HV9).mono ?_; rintro e w10 ⟨⟨c, rfl⟩, HS10⟩; obtain ⟨s10, hs10⟩ := HS10.out; obtain ⟨_, p1, p2, _⟩ := box7s hs10.box; clear hs10)
                | fail)
              all_goals
                go_wp2_with fail
                go_meet
                case rel => exact HS10
          · have hP0' : (P == 0) = false := by simp [hP0]
            by_cases hP1 : P = 1
            · subst hP1
              as_aux_lemma =>
                have H13 := hid (SR.turn C6.out HBX6.out N M)
                go_wp2_with (go_at_call 13; refine H13.out.mono ?_; rintro e w8 ⟨⟨c, rfl⟩, h8⟩; have C8 := hid h8; clear h8)
                go_meet
                case rel => exact C8
            · have hP1' : (P == 1) = false := by simp [hP1]
              have hP2 : P = 2 := by omega
              subst hP2
              as_aux_lemma =>
                have hwE : IntKind.i64.wrap (E.i + 1) = E.i + 1 := IntWalk.i64_in _ ⟨by omega, by omega⟩
                have HPN := hid (fun W => pick_any N (E.i + 1) W o2.1 o2.2 (by omega) (by omega))
                generalize pickI N (E.i + 1) = idx at *
                obtain ⟨y, hy⟩ : ∃ y, y = (atE s idx).getD e0 := ⟨_, rfl⟩
                obtain ⟨ok, hok⟩ : ∃ ok, ok = (atE s idx).isSome := ⟨_, rfl⟩
                have HCE : Hid (∀ W, Below w6.heap.size w6 W → W.cell? ⟨b, 1, none⟩ = some (.int .i64 N)) := fun W hW => by
                  obtain ⟨_, c1, _, _⟩ := box7s ((hW.block b (lt_blk HBX6.out)).trans HBX6.out)
                  exact c1
                have H14 : Hid (∀ W, Below w6.heap.size w6 W → Calls Tryz.prog 14 #[.pointer (some ⟨q, 0, none⟩), .int .i64 idx] W fun e w' => e = .returned (.tuple #[.agg #[.int .i64 y.t, .int .i64 y.i, .string (strOf y.d)], .bool ok]) ∧ Below W.heap.size W w' ∧ Hid (Below w6.heap.size w6 w')) := fun W hW => by
                  have h1 := (C6.out.under hW).at idx
                  rw [← hy, ← hok] at h1
                  exact h1.mono fun e w' ⟨g1, g2⟩ => ⟨g1, g2, hW.trans (g2.mono hW.size)⟩
                have H15 : Hid (∀ W, Below w6.heap.size w6 W → Calls Tryz.prog 15 #[.pointer (some ⟨q, 0, none⟩), .int .i64 y.i, .int .i64 y.t, .string ⟨#[115, 116, 97, 116, 101]⟩] W fun e w' => (∃ c : Int, e = .returned (.int .i64 c)) ∧ Hid (∃ s', SR w w' b q a s s' (.cells #[.int .i64 kind, .int .i64 N, .int .i64 M, .string (strOf text), .slice la l.length lc, .bool fits, .slice ka kl.length kc] 34))) := fun W hW => SR.snap C6.out HBX6.out hW y.i y.t
                have HNO : Hid (∀ W, Below w6.heap.size w6 W → ∃ s', SR w W b q a s s' (.cells #[.int .i64 kind, .int .i64 N, .int .i64 M, .string (strOf text), .slice la l.length lc, .bool fits, .slice ka kl.length kc] 34)) := fun W hW => ⟨s, SR.stay (C6.out.under hW) ((hW.block b (lt_blk HBX6.out)).trans HBX6.out)⟩
                have hbn : b ≠ w6.heap.size := by have := lt_blk HBX6.out; omega
                have hbn1 : ¬ b = w6.heap.size := hbn
                have hbn2 : ¬ w6.heap.size = b := fun e => hbn e.symm
                clear hy hok
                obtain ⟨yt, yi, yd⟩ := y
                simp only at *
                go_upto_region 21 with fail
                go_cut [13, 14] from 54 to 278 (fun s13 s14 W => ∃ p : Nat, s13 = .pointer (some ⟨p, 0, none⟩) ∧ s14 = .bool ok ∧ Hid (Below w6.heap.size w6 W ∧ W.heap[p]? = some (.cells #[.int .i64 yt, .int .i64 yi, .string (strOf yd)] 37)))
                case first =>
                  go_region_held3 (fun w' => w'.cell? ⟨b, 1, none⟩ = some (.int .i64 N)) (go_keep)
                    (first
                    | (go_at_call 10; refine (HPN.out _).mono ?_; rintro e w8 ⟨rfl, rfl⟩)
                    | (go_at_call 14; refine (H14.out _ (by repeat (first | exact Below.refl _ _ | apply Below.drew | refine Below.alloc ?_ (by simp) _))).mono ?_; rintro e w9 ⟨rfl, hb9, HB9⟩; have p9 := HCE.out _ HB9.out; first | (have K3 : w9.heap[w6.heap.size]? = some (.cells #[.int .i64 0, .int .i64 0, .string ⟨#[]⟩] 37) := (hb9.block _ (by simp)).trans (heap_alloc_new _ _); obtain ⟨k0, k1, k2, f0, f1, f2⟩ := blk3p K3; have HK3 := hid K3; clear K3 hb9) | (clear hb9))
                    | fail)
                  all_goals
                    go_wp2_with fail
                    go_meet
                    case rel =>
                      first
                      | exact ⟨w6.heap.size, rfl, rfl, set3_below8 HB9.out (Nat.le_refl _) _ _ _, set3_box HK3.out _ _ _⟩
                      | exact ⟨w9.heap.size, rfl, rfl, HB9.out.alloc HB9.out.size _, heap_alloc_new _ _⟩
                case rest =>
                  obtain ⟨p, rfl, rfl, HQ⟩ := hcut
                  generalize wc = W3 at *
                  obtain ⟨k0, k1, k2, _, _, _⟩ := blk3p HQ.out.2
                  have H15x := hid (H15.out W3 HQ.out.1)
                  cases ok with
                  | false =>
                    go_wp2_with fail
                    go_meet
                    case rel => exact HNO.out _ HQ.out.1
                  | true =>
                    go_wp2_with (go_at_call 15; refine H15x.out.mono ?_; rintro e w10 ⟨⟨c, rfl⟩, HS10⟩)
                    go_meet
                    case rel => exact HS10
        case rest =>
          obtain ⟨s', hSR⟩ := hcut.out
          generalize wc = W2 at *
          as_aux_lemma =>
            have CR := hid hSR.log
            have tv1 := hSR.tv.1
            have tv2 := hSR.tv.2
            obtain ⟨_, _, _, z6'⟩ := box7s hSR.box
            have H7 := hid hSR.log.term
            have H8 := hid hSR.log.vote
            clear hcut hSR C6 HBX6 HP z0 z1 z2 z6
            generalize s'.term = T' at *
            generalize s'.vote = V' at *
            generalize s.term = T at *
            generalize s.vote = V at *
            go_upto_region 24 with fail
            go_cut [155] from 54 to 278 (fun s155 W => s155 = .bool false ∧ W = W2)
            case first =>
              have d1 : decide (T' < T) = false := decide_eq_false (by omega)
              have d1' : ¬ T' < T := by omega
              by_cases h1 : T' = T
              · subst h1
                have d2 : (T' == T') = true := by simp
                by_cases h2 : V = 0
                · subst h2
                  go_wp2_with (first | (go_at_call 7; refine H7.out.mono ?_; rintro e w8 ⟨rfl, rfl⟩) | (go_at_call 8; refine H8.out.mono ?_; rintro e w8 ⟨rfl, rfl⟩))
                  go_meet
                  case rel => exact ⟨rfl, rfl⟩
                · have d3 : (V != 0) = true := by simp [h2]
                  have d4 := tv2 rfl h2
                  subst d4
                  go_wp2_with (first | (go_at_call 7; refine H7.out.mono ?_; rintro e w8 ⟨rfl, rfl⟩) | (go_at_call 8; refine H8.out.mono ?_; rintro e w8 ⟨rfl, rfl⟩))
                  go_meet
                  case rel => exact ⟨by simp, rfl⟩
              · have d2 : (T' == T) = false := by simp [h1]
                go_wp2_with (first | (go_at_call 7; refine H7.out.mono ?_; rintro e w8 ⟨rfl, rfl⟩) | (go_at_call 8; refine H8.out.mono ?_; rintro e w8 ⟨rfl, rfl⟩))
                go_meet
                case rel => exact ⟨rfl, rfl⟩
            case rest =>
              obtain ⟨rfl, hwc⟩ := hcut
              subst hwc
              clear H7 H8 tv1 tv2
              generalize hWC : wc = W2 at *
              clear hWC
              as_aux_lemma =>
                have H16 := hid (CR.out.crash kc HKL.out)
                go_wp2_with fail
                refine H16.out.mono ?_
                rintro e w8 ⟨rfl, h8⟩
                have H6 := hid (LF.reopen (by omega) h8.1)
                clear h8 H16 CR z6'
                go_wp2_with fail
                refine H6.out.mono ?_
                rintro e w9 ⟨rfl, h9, hold⟩
                obtain ⟨m, hm⟩ : ∃ m, m = w8.heap.size := ⟨_, rfl⟩
                rw [← hm] at h9 ⊢
                have C9 := hid h9.1.less
                have hlb := h9.1.lb
                have hlen := h9.1.len
                have HOL := hid hold
                clear h9 hold H6 hm
                have hi0' := hlb.i0
                have hi1' := hlb.i1
                have hwf : IntKind.i64.wrap (s'.snap.i + 1) = s'.snap.i + 1 := IntWalk.i64_in _ ⟨by omega, by omega⟩
                have HM : Hid (∀ W p, p = q ∨ p = m → Below w9.heap.size w9 W → ∃ U v, LogM W U p a v s') := fun W p hp hW => by
                  rcases hp with rfl | rfl
                  · exact old_under HOL.out hW
                  · exact (C9.out.under hW).m
                have HLB := hid hlb
                have G9 : Hid (∀ W p, p = q ∨ p = m → Below w9.heap.size w9 W → Calls Tryz.prog 9 #[.pointer (some ⟨p, 0, none⟩)] W fun e w' => e = .returned (.tuple #[.int .i64 (lastE s').i, .int .i64 (lastE s').t]) ∧ Hid (Below w9.heap.size w9 w')) := fun W p hp hW => (old_last (HM.out W p hp hW) HLB.out).mono fun e w' ⟨g1, g2⟩ => ⟨g1, hW.trans (g2.mono hW.size)⟩
                have G17 : Hid (∀ W p, p = q ∨ p = m → Below w9.heap.size w9 W → Calls Tryz.prog 17 #[.pointer (some ⟨p, 0, none⟩)] W fun e w' => e = .returned (.tuple #[.int .i64 s'.snap.i, .int .i64 s'.snap.t, .string (strOf s'.snap.d)]) ∧ Hid (Below w9.heap.size w9 w')) := fun W p hp hW => (old_snapshot (HM.out W p hp hW)).mono fun e w' ⟨g1, g2⟩ => ⟨g1, hW.trans (g2.mono hW.size)⟩
                have G20 : Hid (∀ W p, p = q ∨ p = m → Below w9.heap.size w9 W → Calls Tryz.prog 20 #[.pointer (some ⟨p, 0, none⟩)] W fun e w' => e = .returned (.int .i64 (s'.snap.i + 1)) ∧ W = w') := fun W p hp hW => old_first (HM.out W p hp hW) HLB.out
                have G7 : Hid (∀ W p, p = q ∨ p = m → Below w9.heap.size w9 W → Calls Tryz.prog 7 #[.pointer (some ⟨p, 0, none⟩)] W fun e w' => e = .returned (.int .i64 s'.term) ∧ W = w') := fun W p hp hW => old_term (HM.out W p hp hW)
                have G8 : Hid (∀ W p, p = q ∨ p = m → Below w9.heap.size w9 W → Calls Tryz.prog 8 #[.pointer (some ⟨p, 0, none⟩)] W fun e w' => e = .returned (.int .i64 s'.vote) ∧ W = w') := fun W p hp hW => old_vote (HM.out W p hp hW)
                have G19 : Hid (∀ W p, p = q ∨ p = m → Below w9.heap.size w9 W → Calls Tryz.prog 19 #[.pointer (some ⟨p, 0, none⟩), .int .i64 (s'.snap.i + 1), .int .i64 1000000] W fun e w' => ∃ v', e = .returned v' ∧ Hid (EL w' v' s'.list) ∧ Hid (Below w9.heap.size w9 w') ∧ Hid (∀ v, EL W v s'.list → EL w' v s'.list)) := fun W p hp hW => (old_all (HM.out W p hp hW) HLB.out (by omega)).mono fun e w' ⟨v', g1, g2, g3⟩ => ⟨v', g1, g2, hW.trans (g3.mono hW.size), fun v hv => hv.under g3⟩
                have G18 : Hid (∀ W v1 v2, Hid (EL W v1 s'.list) → Hid (EL W v2 s'.list) → Below w9.heap.size w9 W → Calls Tryz.prog 18 #[v1, v2] W fun e w' => e = .returned (.bool true) ∧ Hid (Below w9.heap.size w9 w')) := fun W v1 v2 h1 h2 hW => (sameE_yes h1.out h2.out).mono fun e w' ⟨g1, g2⟩ => ⟨g1, hW.trans (g2.mono hW.size)⟩
                have HEND : Hid (∀ W, Below w9.heap.size w9 W → LF w W NoB m a 1000000 s') := fun W hW => C9.out.under hW
                clear C9 HOL HM HLB hlb
                generalize lastE s' = L at *
                generalize s'.term = T' at *
                generalize s'.vote = V' at *
                generalize s'.snap.t = ST at *
                generalize s'.snap.i = SI at *
                generalize s'.snap.d = SD at *
                go_wp2_with fail
                refine (G9.out _ _ (by simp) (Below.refl _ _)).mono ?_
                rintro e w10 ⟨rfl, HB10⟩
                go_wp2_with fail
                refine (G9.out _ _ (by simp) HB10.out).mono ?_
                rintro e w11 ⟨rfl, HB11⟩
                go_wp2_with fail
                refine (G17.out _ _ (by simp) HB11.out).mono ?_
                rintro e w12 ⟨rfl, HB12⟩
                go_wp2_with fail
                refine (G17.out _ _ (by simp) HB12.out).mono ?_
                rintro e w13 ⟨rfl, HB13⟩
                clear HB10 HB11 HB12 G9 G17
                go_upto_region 34 with fail
                go_cut [27] from 54 to 278 (fun s27 W => s27 = .bool true ∧ Hid (Below w9.heap.size w9 W))
                case first =>
                  as_aux_lemma =>
                    go_region_held3 (fun _ => True) (exact trivial)
                      (first
                      | (go_at_call 20; refine (G20.out _ _ (by simp) (by repeat (first | exact HB13.out | exact HBA.out | exact HBB.out | apply Below.drew))).mono ?_; rintro e w14 ⟨rfl, rfl⟩)
                      | (go_at_call 19; have HX := HEA; refine (G19.out _ _ (by simp) (by repeat (first | exact HBA.out | apply Below.drew))).mono ?_; rintro e wB ⟨vB, rfl, HEB, HBB, HTB⟩; have HEA2 := hid (HTB.out _ HX.out); obtain ⟨oaB, capB, rfl, _, _, _, _⟩ := HEB.out.shape; clear HX HTB)
                      | (go_at_call 19; refine (G19.out _ _ (by simp) (by repeat (first | exact HB13.out | apply Below.drew))).mono ?_; rintro e wA ⟨vA, rfl, HEA, HBA, HTA⟩; obtain ⟨oaA, capA, rfl, _, _, _, _⟩ := HEA.out.shape; clear HTA)
                      | (go_at_call 18; refine (G18.out _ _ _ (by first | exact HEA2 | exact HEB) (by first | exact HEB | exact HEA2) (by repeat (first | exact HBB.out | apply Below.drew))).mono ?_; rintro e wC ⟨rfl, HBC⟩)
                      | fail)
                    all_goals
                      go_wp2_with fail
                      go_meet
                      case rel => exact ⟨rfl, HBC⟩
                case rest =>
                  obtain ⟨rfl, HB14⟩ := hcut
                  generalize wc = W4 at *
                  clear HB13 G19 G18
                  as_aux_lemma =>
                    go_upto_region 35 with fail
                    go_cut [277] from 54 to 278 (fun s277 W => s277 = .bool false ∧ Hid (Below w9.heap.size w9 W))
                    case first =>
                      have Q7 : Hid (∀ n p, p = q ∨ p = m → Calls Tryz.prog 7 #[.pointer (some ⟨p, 0, none⟩)] (W4.drewN n) fun e w' => e = .returned (.int .i64 T') ∧ w' = W4.drewN n) := fun n p hp => (G7.out _ p hp (below_drewN HB14.out n)).mono fun e w' ⟨g1, g2⟩ => ⟨g1, g2.symm⟩
                      have Q8 : Hid (∀ n p, p = q ∨ p = m → Calls Tryz.prog 8 #[.pointer (some ⟨p, 0, none⟩)] (W4.drewN n) fun e w' => e = .returned (.int .i64 V') ∧ w' = W4.drewN n) := fun n p hp => (G8.out _ p hp (below_drewN HB14.out n)).mono fun e w' ⟨g1, g2⟩ => ⟨g1, g2.symm⟩
                      have Q20 : Hid (∀ n p, p = q ∨ p = m → Calls Tryz.prog 20 #[.pointer (some ⟨p, 0, none⟩)] (W4.drewN n) fun e w' => e = .returned (.int .i64 (SI + 1)) ∧ w' = W4.drewN n) := fun n p hp => (G20.out _ p hp (below_drewN HB14.out n)).mono fun e w' ⟨g1, g2⟩ => ⟨g1, g2.symm⟩
                      clear G7 G8 G20
                      have x1 : (L.i != L.i) = false := by simp
                      have x2 : (L.t != L.t) = false := by simp
                      have x3 : (SI != SI) = false := by simp
                      have x4 : (ST != ST) = false := by simp
                      have x5 : ((strOf SD).toList == (strOf SD).toList) = true := by simp
                      have x5' : (!((strOf SD).toList == (strOf SD).toList)) = false := by simp
                      have x6 : (T' != T') = false := by simp
                      have x7 : (V' != V') = false := by simp
                      have x8 : (SI + 1 != SI + 1) = false := by simp
                      go_quiet (first
                        | (go_at_call 7; exact Calls.quiet_of_same (Q7.out _ _ (by simp)))
                        | (go_at_call 8; exact Calls.quiet_of_same (Q8.out _ _ (by simp)))
                        | (go_at_call 20; exact Calls.quiet_of_same (Q20.out _ _ (by simp))))
                      go_wp2_with fail
                      go_meet
                      case rel => exact ⟨by simp, below_drewN HB14.out _⟩
                    case rest =>
                      obtain ⟨rfl, HB15⟩ := hcut
                      generalize wc = W5 at *
                      go_wp2_with fail
                      go_roundg (60 - (k + 1))
                      case measure => omega
                      case rel => exact ⟨k + 1, m, by omega, by omega, by omega, by go_num, rfl, s', HEND.out _ HB15.out⟩
      · have h60' : ¬ (k : Int) < 60 := by omega
        go_wp2_with fail
        go_ret
        exact ⟨rfl, CS.out.below⟩
    · have hlt' : ¬ (k : Int) < (ops.length : Int) := by omega
      go_wp2_with fail
      go_ret
      exact ⟨rfl, CS.out.below⟩
end Go.Proofs.YtclldpecbocclaaGreat

