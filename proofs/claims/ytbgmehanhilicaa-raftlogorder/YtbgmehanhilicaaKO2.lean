/- RaftlogOrder: its walk. -/
import Derived.Test.YtbgmehanhilicaaKO1b
import Derived.Deep.CutRange
import Derived.Deep.CutBlock
namespace Go.Proofs.Ytbgmehanhilicaa
open Go.RowKit Go.Maps
set_option maxRecDepth 100000
set_option linter.unusedSimpArgs false
set_option linter.unusedVariables false

theorem OpsAt.under {w w1 : World} {so : Option Addr} {ops : List OpV} (h : OpsAt w so ops) (hb : Below w.heap.size w w1) (k : Nat) (hk : k < ops.length) : ∃ b off, so = some ⟨b, off, none⟩ ∧ ops[k].ok w ∧ ops[k].ok w1 ∧ ∀ j u, (ops[k].cells)[j]? = some u → w1.cell? ⟨b, off + k * 7 + j, none⟩ = some u := by
  rcases h with h | ⟨b, off, e, hlt, hc⟩
  · subst h; simp at hk
  · obtain ⟨h1, h2⟩ := hc k hk
    exact ⟨b, off, e, h1, ⟨h1.k, h1.n, h1.m, h1.t, h1.e.under hb, h1.c, h1.cm, h1.nn, h1.kv⟩, fun j u hu => (hb.cell hlt).trans (h2 j u hu)⟩
set_option maxHeartbeats 20000000 in
theorem order_walk (w : World) (so : Option Addr) (scap : Nat) (ops : List OpV) (ho : OpsAt w so ops) (hol : ops.length ≤ maxLen) :
    Calls Try.prog 3 #[.slice so ops.length scap] w fun e w' => e = .returned (.bool true) ∧ Below w.heap.size w w' := by
  have HO := hid ho
  have HS := hid (shown_any w)
  have hol' : ops.length ≤ 9223372036854775807 := by unfold maxLen at hol; omega
  clear ho hol
  go_enter Try.func3, Try.ntmps3
  go_wp2_with fail
  refine HS.out.mono ?_
  rintro e w1 ⟨rfl, hb1⟩
  have HN := hid (newA 1000000 w1 (by omega) (by omega))
  have HB1 := hid hb1
  clear HS hb1
  go_wp2_with fail
  refine HN.out.mono ?_
  rintro e w2 ⟨rfl, hd2, hb2⟩
  have HL := hid (LF.new hd2 w (HB1.out.trans (hb2.mono HB1.out.size)) (fun k hk => by have := HB1.out.size; omega))
  clear HN hb2 hd2
  go_wp2_with fail
  refine HL.out.mono ?_
  rintro e w3 ⟨rfl, h3⟩
  obtain ⟨q, hq⟩ : ∃ q, q = w2.heap.size := ⟨_, rfl⟩
  rw [← hq] at h3 ⊢
  obtain ⟨a, ha⟩ : ∃ a, a = w1.heap.size := ⟨_, rfl⟩
  rw [← ha] at h3 ⊢
  have C3 := hid h3
  clear h3 HL hq ha HB1
  go_wp2_with fail
  go_loopg [7] 60 (fun kx s7 wr => ∃ k : Nat, k ≤ 60 ∧ k ≤ ops.length ∧ 60 - k ≤ kx ∧ s7 = .int .i64 (k : Int) ∧ Hid (∃ s, LF w wr NoB q a 1000000 s))
  case atStart => exact ⟨0, by omega, by omega, by omega, rfl, _, C3.out⟩
  case round =>
    obtain ⟨k, hk, hkl, hkx, rfl, HI⟩ := hrel
    clear C3
    obtain ⟨s, hs0⟩ := HI.out
    have CS := hid hs0
    clear HI hs0
    by_cases hlt : k < ops.length
    · have hlt' : (k : Int) < (ops.length : Int) := by omega
      by_cases h60 : k < 60
      · have h60' : (k : Int) < 60 := by omega
        obtain ⟨sb, off, rfl, hok0, hok, hcc⟩ := HO.out.under CS.out.below k hlt
        have HOK := hid hok
        have HE0 := hid hok0.e
        have y0 := hcc 0 _ rfl
        have y1 := hcc 1 _ rfl
        have y2 := hcc 2 _ rfl
        have y3 := hcc 3 _ rfl
        have y4 := hcc 4 _ rfl
        have y5 := hcc 5 _ rfl
        have y6 := hcc 6 _ rfl
        simp only [Nat.add_zero] at y0
        clear hcc hok hok0
        generalize ops[k] = x at *
        obtain ⟨kind, N, M, text, la, lc, l, fits, kv⟩ := x
        obtain ⟨o1, o2, o3, o4, o5, o6, o7, o8, ka, kn, kc, o9⟩ := HOK.out
        simp only at o9
        subst o9
        simp only at *
        have HE := hid o5
        have hts := strOf_size text
        have hlc : lc ≤ 9223372036854775807 := by unfold maxLen at o7; omega
        have htm : text.length ≤ 9223372036854775807 := by unfold maxLen at o4; omega
        clear o5 HOK
        by_cases hbig : 20 < l.length ∨ 1000 < text.length
        · have HB := hid (CS.out.under ((Below.refl _ _).alloc (Nat.le_refl _) (.cells #[.int .i64 kind, .int .i64 N, .int .i64 M, .string (strOf text), .slice la l.length lc, .bool fits, .slice ka kn kc] 34)))
          by_cases hb1 : 20 < l.length
          · have hb1' : (20 : Int) < (l.length : Int) := by omega
            go_wp2_with fail
            go_roundg (60 - (k + 1))
            case measure => omega
            case rel => exact ⟨k + 1, by omega, by omega, by omega, by go_num, s, HB.out⟩
          · have hb1' : ¬ (20 : Int) < (l.length : Int) := by omega
            have hb2 : (1000 : Int) < ((strOf text).size : Int) := by omega
            have hb2' : (1000 : Int) < (text.length : Int) := by omega
            go_wp2_with fail
            go_roundg (60 - (k + 1))
            case measure => omega
            case rel => exact ⟨k + 1, by omega, by omega, by omega, by go_num, s, HB.out⟩
        · have hb1' : ¬ (20 : Int) < (l.length : Int) := by omega
          have hb2 : ¬ (1000 : Int) < ((strOf text).size : Int) := by omega
          have hb2' : ¬ (1000 : Int) < (text.length : Int) := by omega
          have hl20 : l.length ≤ 20 := by omega
          have ht1000 : text.length ≤ 1000 := by omega
          clear hbig
          have hbA : Below wr.heap.size wr (wr.alloc (.cells #[.int .i64 kind, .int .i64 N, .int .i64 M, .string (strOf text), .slice la l.length lc, .bool fits, .slice ka kn kc] 34)) := (Below.refl _ _).alloc (Nat.le_refl _) _
          obtain ⟨b, hbe⟩ : ∃ b, b = wr.heap.size := ⟨_, rfl⟩
          have C1 := hid (CS.out.with hbA (fun z => z = b) (fun z hz => .inr ⟨by omega, by subst hz; rw [hbe]; simp⟩))
          have HE1 := hid (HE.out.under hbA)
          have hwb : w.heap.size ≤ b := by have := CS.out.below.size; omega
          have HLA : Hid (0 < l.length → ∀ ad, la = some ad → ad.block < w.heap.size) := fun h0 ad had => by
            obtain ⟨g, o, e, hg, _⟩ := HE0.out h0
            rw [had] at e
            cases e
            exact hg
          have hbox : (wr.alloc (.cells #[.int .i64 kind, .int .i64 N, .int .i64 M, .string (strOf text), .slice la l.length lc, .bool fits, .slice ka kn kc] 34)).heap[b]? = some (.cells #[.int .i64 kind, .int .i64 N, .int .i64 M, .string (strOf text), .slice la l.length lc, .bool fits, .slice ka kn kc] 34) := by rw [hbe]; exact heap_alloc_new wr _
          have HBX := hid hbox
          have z0 := cell_at hbox (j := 0) rfl
          have z1 := cell_at hbox (j := 1) rfl
          have z2 := cell_at hbox (j := 2) rfl
          have z3 := cell_at hbox (j := 3) rfl
          have z4 := cell_at hbox (j := 4) rfl
          have z5 := cell_at hbox (j := 5) rfl
          have g1 := frozen_blk hbox 1
          have g4 := frozen_blk hbox 4
          clear hbox hbA
          go_upto_if 72 with fail
          rw [← hbe]
          clear hbe
          generalize wr.alloc (.cells #[.int .i64 kind, .int .i64 N, .int .i64 M, .string (strOf text), .slice la l.length lc, .bool fits, .slice ka kn kc] 34) = W1 at *
          clear y0 y1 y2 y3 y4 y5 y6
          go_cut [9, 10, 11] from 47 to 221 (fun s9 s10 s11 W => ∃ (N' : Int) (oa' : Option Addr) (l' : List Et) (cap' : Nat), Hid (OpIn w W b q a s kind N' M text oa' l' cap' fits (.slice ka kn kc)))
          case first =>
            cases fits with
            | false =>
              go_wp2_with fail
              go_meet
              case rel => exact ⟨N, la, l, lc, ⟨_, C1.out, fun h0 ad had => .inr (HLA.out h0 ad had)⟩, HBX.out, HE1.out, hl20, o6, o7, o1, ht1000⟩
            | true =>
              as_aux_lemma =>
                have hlast := C1.out.ok.last
                have hlb := C1.out.lb
                have hi0 := hlb.i0
                have hi1 := hlb.i1
                have hi2 := hlb.len
                have H8 := hid C1.out.last
                generalize hEE : lastE s = E at *
                clear hEE
                have e1 : 0 ≤ E.i := by omega
                have e2 : E.i ≤ 1100000000 := by omega
                clear hlast
                have hwE : IntKind.i64.wrap (E.i + 1) = E.i + 1 := IntWalk.i64_in _ ⟨by omega, by omega⟩
                have HB5 : Hid (∀ W, Below W1.heap.size W1 W → W.heap[b]? = some (.cells #[.int .i64 kind, .int .i64 N, .int .i64 M, .string (strOf text), .slice la l.length lc, .bool true, .slice ka kn kc] 34)) := fun W hW => (hW.block b (lt_blk HBX.out)).trans HBX.out
                have HP := hid (fun W => pick_any N (E.i + 1) W o2.1 o2.2 (by omega) (by omega))
                have hpr := pickI_range N (E.i + 1) (by omega)
                generalize pickI N (E.i + 1) = N' at *
                obtain ⟨i0, hi0', hz0, hz1, hz2⟩ := info38
                clear z0 z1 z2 z3 z4 g1 g4
                go_wp2_with (go_at_call 8; refine H8.out.mono ?_; rintro e w5 ⟨rfl, hb5⟩; obtain ⟨⟨z0, z1, z2, z3, z4, z6⟩, g1, g4⟩ := box7 (HB5.out _ hb5); have HB := hid hb5; clear hb5)
                refine (HP.out _).mono ?_
                rintro e w5b ⟨rfl, rfl⟩
                have HROW : Hid (((w5.setCell ⟨b, 1, none⟩ (.int .i64 N')).alloc (.cells #[] 38)).ownsRow w5.heap.size 38 3 (.slice (some ⟨w5.heap.size, 0, none⟩) 0 0) 0 []) := ⟨rfl, .inr ⟨w5.heap.size, 0, #[], rfl, Nat.le_refl _, by have h9 := heap_alloc_new (w5.setCell ⟨b, 1, none⟩ (.int .i64 N')) (.cells #[] 38); rw [set_size] at h9; exact h9, Nat.le_refl _, Nat.zero_le _, rfl, rfl⟩⟩
                have hsz6 : (w5.setCell ⟨b, 1, none⟩ (.int .i64 N')).heap.size = w5.heap.size := set_size _ _ _
                have HON := hid (flatT_one l)
                have HLn : Hid ((flatT l).length = l.length * 3) := flatT_length l
                have HMD : Hid (∀ v' w7, w7.ownsRow w5.heap.size 38 3 v' l.length (flatT l) → ((w5.setCell ⟨b, 1, none⟩ (.int .i64 N')).alloc (.cells #[] 38)).grownBy w7 (some w5.heap.size) → v' ≠ .slice none 0 0 → ∃ g cap, v' = .slice (some ⟨g, 0, none⟩) l.length cap ∧ l.length ≤ cap ∧ cap ≤ maxLen ∧ w7.cell? ⟨b, 4, none⟩ = some (.slice la l.length lc) ∧ w7.frozen? ⟨b, 4, none⟩ = false ∧ Own w (w7.setCell ⟨b, 4, none⟩ v') b q a s kind N' M text g l cap true (.slice ka kn kc)) := fun v' w7 h1 h2 h3 => own_made C1.out hwb HBX.out HB.out rfl h1 h2 h3
                have hbw5 : ¬ b = w5.heap.size := by have := lt_blk (HB5.out _ HB.out); omega
                have hbw5' : ¬ w5.heap.size = b := fun e => hbw5 e.symm
                have z4c : ((w5.setCell ⟨b, 1, none⟩ (.int .i64 N')).alloc (.cells #[] 38)).cell? ⟨b, 4, none⟩ = some (.slice la l.length lc) := cell_at (blk_alloc (set_box (HB5.out _ HB.out)) _) rfl
                cases la with
                | none =>
                  as_aux_lemma =>
                    have hl0 : l = [] := by
                      have h9 := o8 rfl
                      exact List.eq_nil_of_length_eq_zero (by omega)
                    subst hl0
                    have hlc0 : lc = 0 := o8 rfl
                    subst hlc0
                    obtain ⟨g, cap, hge, hgc, hgm, p7, f7, HOw⟩ := HMD.out (.slice (some ⟨w5.heap.size, 0, none⟩) 0 0) _ HROW.out ⟨rfl, rfl, rfl, Nat.le_refl _, fun k _ _ => rfl⟩ (by intro e; cases e)
                    have HOW := hid HOw
                    cases hge
                    clear HOw
                    go_wp2_with (at_builtin; refine wpList_append_own_none rfl _ _ 31 rfl w5.heap.size 38 i0 3 Try.underlying31 hi0' _ 0 [] rfl HROW.out rfl ?_)
                    clear z0 z1 z2 z3 z4 z4c z6 g1 g4 p7 f7 HMD HROW HON HLn
                    have HOW' : Hid (Own w (((w5.setCell ⟨b, 1, none⟩ (.int .i64 N')).alloc (.cells #[] 38)).setCell ⟨b, 4, none⟩ (.slice (some ⟨w5.heap.size, 0, none⟩) 0 0)) b q a s kind N' M text w5.heap.size [] 0 true (.slice ka kn kc)) := HOW
                    clear HOW
                    generalize ((w5.setCell ⟨b, 1, none⟩ (.int .i64 N')).alloc (.cells #[] 38)).setCell ⟨b, 4, none⟩ (.slice (some ⟨w5.heap.size, 0, none⟩) 0 0) = W8 at *
                    go_loopg [11] 0 (fun kx s11 wr2 => s11 = .int .i64 0 ∧ Hid (Own w wr2 b q a s kind N' M text w5.heap.size [] 0 true (.slice ka kn kc)))
                    case atStart => exact ⟨rfl, HOW'⟩
                    case round =>
                      obtain ⟨rfl, HJ⟩ := hrel
                      clear HOW'
                      have hbx := HJ.out.box
                      rw [List.length_nil] at hbx
                      obtain ⟨⟨z0, z1, z2, z3, z4, z6⟩, _, _⟩ := box7 hbx
                      clear hbx
                      have hjl' : ¬ (0 : Int) < 0 := by omega
                      go_wp2_with fail
                      go_meet
                      case rel => exact ⟨N', some ⟨w5.heap.size, 0, none⟩, [], 0, ⟨_, HJ.out.log, fun _ ad had => .inl (by cases had; exact .inr rfl)⟩, HJ.out.box, HJ.out.ents.at, by omega, by omega, hgm, o1, ht1000⟩
                | some ad =>
                  as_aux_lemma =>
                    have HNW : Hid (∀ j u, (flatT l)[j]? = some u → ((w5.setCell ⟨b, 1, none⟩ (.int .i64 N')).alloc (.cells #[] 38)).cell? (ad.add j) = some u) := fun j u hu => by
                      have hl0 : 0 < l.length := by
                        have := (List.getElem?_eq_some_iff.1 hu).1
                        rw [flatT_length] at this
                        omega
                      obtain ⟨g, o, e, hg, hc⟩ := (HE1.out.under HB.out) hl0
                      cases e
                      have hgb : g ≠ b := by have := HLA.out hl0 _ rfl; simp only at this; omega
                      rw [addr_add]
                      refine Lib.cell?_alloc_some _ ?_
                      rw [World.cell?_of_block (a := ⟨g, o + j, none⟩) (Below.heap_setCell w5 ⟨b, 1, none⟩ _ g hgb)]
                      exact hc j u hu
                    generalize flatT l = FT at *
                    go_wp2_with (at_builtin; refine wpList_append_own_at _ rfl _ _ 31 rfl w5.heap.size 38 i0 _ 3 32 Try.underlying31 hi0' hz0 hz1 hz2 rfl (by decide) _ 0 [] rfl HROW.out ad l.length lc FT rfl HLn.out HNW.out HON.out (by unfold maxLen; omega) (by omega) (by simp [set_size]) ?_; intro v' w7 hown7 hg7 hx7 _; rw [Nat.zero_add, List.nil_append] at hown7; obtain ⟨g, cap, rfl, hgc, hgm, p7, f7, HOw⟩ := HMD.out v' w7 hown7 hg7 (by intro e; exact absurd (hx7.1 e).1 (by intro h; cases h)); have HOW := hid HOw; clear hown7 hg7 hx7 HOw)
                    clear z0 z1 z2 z3 z4 z4c z6 g1 g4 p7 f7 HMD HROW HNW HON HLn
                    generalize w7.setCell ⟨b, 4, none⟩ (.slice (some ⟨g, 0, none⟩) l.length cap) = W8 at *
                    have hN1 : IntKind.i64.wrap (N' + 1) = N' + 1 := IntWalk.i64_in _ ⟨by omega, by omega⟩
                    go_loopg [11] l.length (fun kx s11 wr2 => ∃ (j : Nat) (l' : List Et), j ≤ l.length ∧ l'.length = l.length ∧ l.length - j ≤ kx ∧ s11 = .int .i64 (j : Int) ∧ Hid (Own w wr2 b q a s kind N' M text g l' cap true (.slice ka kn kc)))
                    case atStart => exact ⟨0, l, by omega, rfl, by omega, rfl, HOW⟩
                    case round =>
                      obtain ⟨j, l', hj, hll, hjx, rfl, HJ⟩ := hrel
                      clear HOW
                      have HLL := hid hll
                      have hbx := HJ.out.box
                      rw [hll] at hbx
                      obtain ⟨⟨z0, z1, z2, z3, z4, z6⟩, _, _⟩ := box7 hbx
                      clear hbx
                      by_cases hjl : j < l.length
                      · have hjl' : (j : Int) < (l.length : Int) := by omega
                        have hjl2 : j < l'.length := by omega
                        have hN2 : IntKind.i64.wrap (N' + 1 + (j : Int)) = N' + 1 + (j : Int) := IntWalk.i64_in _ ⟨by omega, by omega⟩
                        have hx : l'[j]? = some l'[j] := List.getElem?_eq_getElem hjl2
                        obtain ⟨_, c1, _⟩ := HJ.out.ents.at_ j _ hx
                        obtain ⟨hset, fz⟩ := HJ.out.set j hjl2 (N' + 1 + (j : Int))
                        have HST := hid hset
                        have hlen2 : Hid ((l'.set j ⟨l'[j].t, N' + 1 + (j : Int), l'[j].d⟩).length = l.length) := by show _ = _; rw [List.length_set]; exact hll
                        clear hx hset hll
                        generalize l'.set j ⟨l'[j].t, N' + 1 + (j : Int), l'[j].d⟩ = l2 at *
                        generalize l'[j].i = oldi at *
                        go_wp2_with fail
                        go_roundg (l.length - (j + 1))
                        case measure => omega
                        case rel => exact ⟨j + 1, l2, by omega, hlen2.out, Nat.le_refl _, by go_num, HST⟩
                      · have hjl' : ¬ (j : Int) < (l.length : Int) := by omega
                        clear hll
                        go_wp2_with fail
                        go_meet
                        case rel =>
                          have hll := HLL.out
                          exact ⟨N', some ⟨g, 0, none⟩, l', cap, ⟨_, HJ.out.log, fun _ ad had => .inl (by cases had; exact .inr rfl)⟩, HJ.out.box, HJ.out.ents.at, by omega, by omega, hgm, o1, ht1000⟩
          case rest =>
            obtain ⟨N', oa', l', cap', HQ⟩ := hcut
            generalize wc = W at *
            as_aux_lemma =>
              obtain ⟨⟨X, hLX, hXl⟩, qbox, qe, ql, qc, qcm, qk, qt⟩ := HQ.out
              have CX := hid hLX
              obtain ⟨⟨z0, z1, z2, z3, z4, z6⟩, _, _⟩ := box7 qbox
              have HP := hid (fun W => pick_any kind 4 W qk.1 qk.2 (by omega) (by omega))
              have hpr := pickI_range kind 4 (by omega)
              generalize pickI kind 4 = P at *
              have H10 := hid (hLX.snap N' M text (by omega))
              have H11 := hid (hLX.put qe (by omega) qc qcm hXl N')
              clear HQ hLX hXl qbox qe C1 HE1 HLA HBX CS HE HE0
              go_wp2_with fail
              refine (HP.out _).mono ?_
              rintro e w5 ⟨rfl, rfl⟩
              go_upto_block 4 with fail
              go_cut [9] from 47 to 221 (fun s9 W2 => Hid (∃ s', LF w W2 NoB q a 1000000 s'))
              case first =>
                by_cases hP : P = 3
                · subst hP
                  go_wp2_with (go_at_call 10; refine H10.out.mono ?_; rintro e w6 ⟨rfl, h6, _, _⟩; have C6 := hid h6.less; clear h6)
                  go_meet
                  case rel => exact ⟨_, C6.out⟩
                · have hP' : (P == 3) = false := by simp [hP]
                  go_wp2_with (go_at_call 11; refine H11.out.mono ?_; rintro e w6 ⟨rfl, h6, _, _⟩; have C6 := hid h6.less; clear h6)
                  go_meet
                  case rel => exact ⟨_, C6.out⟩
              case rest =>
                as_aux_lemma =>
                  obtain ⟨s', hs'⟩ := hcut.out
                  clear hcut
                  generalize wc = W2 at *
                  have hok := hs'.ok
                  have hlb := hs'.lb
                  have hln8 := hs'.len
                  have hlast := hok.last
                  have htl := termAt_last (s := s')
                  have HTL : Hid ((lastE s').i = s'.snap.i + (s'.list.length : Int) ∧ (lastE s').t = termAt s' s'.list.length) := ⟨hlast, htl⟩
                  have HFA := hid (from_all (s := s') (by omega))
                  have CW := hid hs'
                  have H12 := hid hs'.snapshot
                  have H14 : Hid (∀ W, Below W2.heap.size W2 W → Calls Try.prog 14 #[.pointer (some ⟨q, 0, none⟩)] W fun e w' => e = .returned (.int .i64 (s'.snap.i + 1)) ∧ W = w') := fun W hW => (hs'.under hW).first
                  have H13 : Hid (∀ W, Below W2.heap.size W2 W → Calls Try.prog 13 #[.pointer (some ⟨q, 0, none⟩), .int .i64 (s'.snap.i + 1), .int .i64 1000000] W fun e w' => ∃ v', e = .returned v' ∧ Hid (EL w' v' s'.list) ∧ Below W2.heap.size W2 w') := fun W hW => ((hs'.under hW).from (s'.snap.i + 1) 1000000).mono fun e w' ⟨v', e1, e2, e3, e4⟩ => ⟨v', e1, by rw [HFA.out] at e2; exact e2, hW.trans (e4.mono hW.size)⟩
                  have H8 : Hid (∀ W, Below W2.heap.size W2 W → Calls Try.prog 8 #[.pointer (some ⟨q, 0, none⟩)] W fun e w' => e = .returned (.tuple #[.int .i64 (lastE s').i, .int .i64 (lastE s').t]) ∧ Below W2.heap.size W2 w') := fun W hW => (hs'.under hW).last.mono fun e w' ⟨e1, e2⟩ => ⟨e1, hW.trans (e2.mono hW.size)⟩
                  have H15 : Hid (∀ W idx, Below W2.heap.size W2 W → Calls Try.prog 15 #[.pointer (some ⟨q, 0, none⟩), .int .i64 idx] W fun e w' => e = .returned (.tuple #[evalue ((atE s' idx).getD e0), .bool (atE s' idx).isSome]) ∧ Below W.heap.size W w') := fun W idx hW => (hs'.under hW).at idx
                  have HIX : Hid (∀ (j : Nat) x, s'.list[j]? = some x → x.i = s'.snap.i + 1 + (j : Int) ∧ atE s' x.i = some x ∧ termAt s' j ≤ x.t ∧ termAt s' (j + 1) = x.t) := fun j x hx => ⟨hok.idx j x hx, by rw [hok.idx j x hx, atE_at]; exact hx, termAt_le hok hx, termAt_next hx⟩
                  have hi0 := hlb.i0
                  have hi1 := hlb.i1
                  have hw1 : IntKind.i64.wrap (s'.snap.i + 1) = s'.snap.i + 1 := IntWalk.i64_in _ ⟨by omega, by omega⟩
                  have hT0 : s'.snap.t = termAt s' 0 := rfl
                  rw [hT0] at H12
                  clear hok hlb hlast htl hs' hT0 H10 H11 HP z0 z1 z2 z3 z4 z6 z5 CX
                  go_wp2_with (go_at_call 12; refine H12.out.mono ?_; rintro e w7 ⟨rfl, hb7⟩)
                  go_region_with (first
                    | (go_at_call 14; refine (H14.out _ (by first | exact hb7 | exact hb7.drew)).mono ?_; rintro e w7b ⟨rfl, rfl⟩)
                    | (go_at_call 13; refine (H13.out _ (by first | exact hb7 | exact hb7.drew)).mono ?_; rintro e w8 ⟨v8, rfl, HE8, hb8⟩; obtain ⟨oa8, cap8, rfl, hc8, hm8, hn8, hoa8⟩ := HE8.out.shape)
                    | fail)
                  all_goals
                    have H14b := hid (H14.out w8 hb8)
                    have HB8 := hid hb8
                    clear hb8 hb7
                    go_wp2_with (go_at_call 14; refine H14b.out.mono ?_; rintro e w8b ⟨rfl, rfl⟩)
                    generalize hNN : s'.list.length = NN at *
                    have HNN := hid hNN
                    clear hNN
                    have hwL : IntKind.i64.wrap (s'.snap.i + (NN : Int)) = s'.snap.i + (NN : Int) := IntWalk.i64_in _ ⟨by omega, by omega⟩
                    go_loopg [13, 16] NN (fun kx s13 s16 wr => ∃ j : Nat, j ≤ NN ∧ NN - j ≤ kx ∧ s16 = .int .i64 (j : Int) ∧ s13 = .int .i64 (termAt s' j) ∧ Hid (Below w8.heap.size w8 wr))
                    case atStart => exact ⟨0, by omega, by omega, rfl, rfl, Below.refl _ _⟩
                    case round =>
                      obtain ⟨j, hj, hjx, rfl, rfl, HJ⟩ := hrel
                      have HBW : Hid (Below W2.heap.size W2 wr) := HB8.out.trans (HJ.out.mono HB8.out.size)
                      by_cases hjl : j < NN
                      · have hjl' : (j : Int) < (NN : Int) := by omega
                        obtain ⟨g8, rfl⟩ := hoa8 (by omega)
                        have hx : s'.list[j]? = some (s'.list[j]'(by rw [HNN.out]; exact hjl)) := List.getElem?_eq_getElem _
                        generalize s'.list[j]'(by rw [HNN.out]; exact hjl) = x at *
                        obtain ⟨r0, r1, r2⟩ := (HE8.out.under HJ.out).at_ j x hx
                        have HXX := hid (HIX.out j x hx)
                        have HRW : Hid (∀ W, Below w8.heap.size w8 W → W.cell? ⟨g8, j * 3, none⟩ = some (.int .i64 x.t) ∧ W.cell? ⟨g8, j * 3 + 1, none⟩ = some (.int .i64 x.i) ∧ W.cell? ⟨g8, j * 3 + 2, none⟩ = some (.string (strOf x.d))) := fun W hW => (HE8.out.under hW).at_ j x hx
                        have H15x : Hid (∀ W, Below wr.heap.size wr W → Calls Try.prog 15 #[.pointer (some ⟨q, 0, none⟩), .int .i64 x.i] W fun e w' => e = .returned (.tuple #[.agg #[.int .i64 x.t, .int .i64 x.i, .string (strOf x.d)], .bool true]) ∧ Below W.heap.size W w' ∧ Hid (Below wr.heap.size wr w')) := fun W hW => by
                          have h1 := H15.out W x.i (HBW.out.trans (hW.mono HBW.out.size))
                          rw [HXX.out.2.1] at h1
                          exact h1.mono fun e w' ⟨e1, e2⟩ => ⟨e1, e2, hW.trans (e2.mono hW.size)⟩
                        have HJt : Hid (∀ W, Below wr.heap.size wr W → Below w8.heap.size w8 W) := fun W hW => HJ.out.trans (hW.mono HJ.out.size)
                        have hg8n : g8 ≠ wr.heap.size := by have := (HE8.out).lt g8 rfl; have := HJ.out.size; omega
                        have hwr8 : w8.heap.size ≤ wr.heap.size := HJ.out.size
                        clear hx
                        obtain ⟨xt, xi, xd⟩ := x
                        simp only at *
                        go_upto_region 32 with fail
                        go_cut [17, 18] from 150 to 203 (fun s17 s18 W => ∃ p : Nat, s17 = .pointer (some ⟨p, 0, none⟩) ∧ s18 = .bool true ∧ Hid (Below w8.heap.size w8 W ∧ W.heap[p]? = some (.cells #[.int .i64 xt, .int .i64 xi, .string (strOf xd)] 38)))
                        case first =>
                          as_aux_lemma =>
                            go_region_held3 (fun w' => w'.cell? ⟨g8, j * 3 + 1, none⟩ = some (.int .i64 xi)) (first | exact p9 | exact r1 | exact Lib.cell?_alloc_some _ r1 | exact Lib.cell?_alloc_some _ p9 | exact (set3_cell hg8n _ _ _).trans p9)
                              (first
                              | (go_at_call 15; refine (H15x.out _ (by repeat (first | exact Below.refl _ _ | apply Below.drew | refine Below.alloc ?_ (by simp) _))).mono ?_; rintro e w9 ⟨rfl, hb9, HB9⟩; have p9 := (HRW.out _ (HJt.out _ HB9.out)).2.1; first | (have K3 : w9.heap[wr.heap.size]? = some (.cells #[.int .i64 0, .int .i64 0, .string ⟨#[]⟩] 38) := (hb9.block _ (by simp)).trans (heap_alloc_new _ _); obtain ⟨k0, k1, k2, f0, f1, f2⟩ := blk3p K3; have HK3 := hid K3; clear K3 hb9) | (clear hb9))
                              | fail)
                            all_goals
                              go_wp2_with fail
                              go_meet
                              case rel =>
                                first
                                | exact ⟨wr.heap.size, rfl, rfl, set3_below8 (HJt.out _ HB9.out) hwr8 _ _ _, set3_box HK3.out _ _ _⟩
                                | exact ⟨w9.heap.size, rfl, rfl, (HJt.out _ HB9.out).alloc (HJt.out _ HB9.out).size _, heap_alloc_new _ _⟩
                        case rest =>
                          as_aux_lemma =>
                            obtain ⟨p, rfl, rfl, HQ⟩ := hcut
                            generalize wc = W3 at *
                            clear r0 r1 r2
                            obtain ⟨k0, k1, k2, _, _, _⟩ := blk3p HQ.out.2
                            obtain ⟨r0, r1, r2⟩ := HRW.out _ HQ.out.1
                            have hn1 : IntKind.i64.wrap (s'.snap.i + 1 + (j : Int)) = s'.snap.i + 1 + (j : Int) := IntWalk.i64_in _ ⟨by omega, by omega⟩
                            have hq1 : (xi != s'.snap.i + 1 + (j : Int)) = false := by have := HXX.out.1; simp [this]
                            have hq2 : decide (xt < termAt s' j) = false := decide_eq_false (by have := HXX.out.2.2.1; omega)
                            have hq3 := fun W => neq38 ⟨xt, xi, xd⟩ W
                            simp only at hq3
                            have HTN : Hid (xt = termAt s' (j + 1)) := HXX.out.2.2.2.symm
                            clear HXX
                            go_wp2_with fail
                            go_quiet (fail)
                            go_wp2_with fail
                            go_roundg (NN - (j + 1))
                            case measure => omega
                            case rel => exact ⟨j + 1, by omega, Nat.le_refl _, by go_num, by rw [← HTN.out], below_drewN HQ.out.1 _⟩
                      · have hjl' : ¬ (j : Int) < (NN : Int) := by omega
                        have e : j = NN := by omega
                        subst e
                        have H8x : Hid (Calls Try.prog 8 #[.pointer (some ⟨q, 0, none⟩)] wr fun e w' => e = .returned (.tuple #[.int .i64 (s'.snap.i + (j : Int)), .int .i64 (termAt s' j)]) ∧ Below W2.heap.size W2 w') := by
                          have h1 := H8.out wr HBW.out
                          rw [HTL.out.1, HTL.out.2] at h1
                          exact h1
                        have HCK : Hid (∀ W, Below W2.heap.size W2 W → LF w W NoB q a 1000000 s') := fun W hW => CW.out.under hW
                        go_wp2_with (go_at_call 8; refine H8x.out.mono ?_; rintro e w10 ⟨rfl, hb10⟩)
                        go_roundg (60 - (k + 1))
                        case measure => omega
                        case rel => exact ⟨k + 1, by omega, by omega, by omega, by go_num, s', HCK.out _ hb10⟩
      · have h60' : ¬ (k : Int) < 60 := by omega
        go_wp2_with fail
        go_ret
        exact ⟨rfl, CS.out.below⟩
    · have hlt' : ¬ (k : Int) < (ops.length : Int) := by omega
      go_wp2_with fail
      go_ret
      exact ⟨rfl, CS.out.below⟩
end Go.Proofs.Ytbgmehanhilicaa

