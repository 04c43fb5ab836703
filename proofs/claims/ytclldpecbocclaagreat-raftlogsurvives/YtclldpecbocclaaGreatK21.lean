/- Put. -/
import Derived.Test.YtclldpecbocclaaGreatK19
import Derived.Test.YtclldpecbocclaaGreatK20
namespace Go.Proofs.YtclldpecbocclaaGreat
open Go.RowKit Go.Maps
set_option maxRecDepth 100000
set_option linter.unusedSimpArgs false
set_option linter.unusedVariables false

theorem field38 (u0 u1 u2 : Value) (w : World) : (Instr.field 37 (.agg #[u0, u1, u2]) 0).run Tryz.prog w = .ok u0 w := by kernel_rfl
set_option maxHeartbeats 6400000 in
theorem logput_any {w : World} {B q a size s} (h : LD w B q a size s) (hk : LOk s) {oa : Option Addr} {cap : Nat} {l : List Et} (hm : EAt w oa l) (hl : l.length ≤ 1000) (hc : l.length ≤ cap) (hcm : cap ≤ maxLen) (hgB : 0 < l.length → ∀ ad, oa = some ad → ¬ B ad.block) (after : Int) :
    Calls Tryz.prog 11 #[.pointer (some ⟨q, 0, none⟩), .int .i64 after, .slice oa l.length cap] w fun e w' => e = .returned (.int .i64 ((putE (size - totalA s.fs) s after l).1 : Int)) ∧ LDA B w w' q a size (putE (size - totalA s.fs) s after l).2 := by
  have hlb := h.lb hk
  have HSame : Hid (∀ w', Below w.heap.size w w' → LDA B w w' q a size s) := fun w' hb => LDA.same h hb
  obtain ⟨U, S, v, hM, hD, hUS, hB⟩ := h
  have H8 := hid (last_any hM hlb)
  have hlast := hk.last
  have hls := hk.srng
  have hll := hlb.len
  by_cases h1 : after < 0 ∨ (lastE s).i < after
  · have HT : Hid (putE (size - totalA s.fs) s after l = (10, s)) := by show _ = _; unfold putE; rw [if_pos h1]
    clear hM hD hUS hB hk hm hlast
    generalize lastE s = E at *
    by_cases h2 : after < 0
    · have h2' : decide (after < 0) = true := decide_eq_true h2
      go_enter Tryz.func11, Tryz.ntmps11
      go_wp2_with (go_at_call 9; refine H8.out.mono ?_; rintro e w2 ⟨rfl, hb2⟩)
      go_ret
      rw [HT.out]
      exact ⟨rfl, HSame.out _ hb2⟩
    · have h3 : E.i < after := by omega
      go_enter Tryz.func11, Tryz.ntmps11
      go_wp2_with (go_at_call 9; refine H8.out.mono ?_; rintro e w2 ⟨rfl, hb2⟩)
      go_ret
      rw [HT.out]
      exact ⟨rfl, HSame.out _ hb2⟩
  · have a0 : ¬ after < 0 := by omega
    have a1 : ¬ (lastE s).i < after := by omega
    have H29 : Hid (∀ W, Below w.heap.size w W → Calls Tryz.prog 23 #[.int .i64 after, .slice oa l.length cap] W fun e w' => e = .returned (.int .i64 (rightE after 0 1 l : Nat)) ∧ Below w.heap.size w w') := fun W hW => (right_any (hm.under hW) (by omega) after (by omega) (by omega)).mono fun e w' ⟨e1, e2⟩ => ⟨e1, hW.trans (e2.mono hW.size)⟩
    by_cases h2 : rightE after 0 1 l = 0
    · have H30 : Hid (∀ W, Below w.heap.size w W → Calls Tryz.prog 24 #[.pointer (some ⟨q, 0, none⟩), .slice oa l.length cap] W fun e w' => UnkPost s oa cap l e ∧ Below w.heap.size w w') := fun W hW => (unk_any (hM.under hW) hlb (hm.under hW) (by omega) hc hcm).mono fun e w' ⟨e1, e2⟩ => ⟨e1, hW.trans (e2.mono hW.size)⟩
      rw [h2] at H29
      cases hu : unkE s l with
      | nil =>
        have HT : Hid (putE (size - totalA s.fs) s after l = (0, s)) := by show _ = _; unfold putE; rw [if_neg h1, if_neg (fun h => h h2), hu]
        have H30' : Hid (∀ W, Below w.heap.size w W → Calls Tryz.prog 24 #[.pointer (some ⟨q, 0, none⟩), .slice oa l.length cap] W fun e w' => e = .returned (.slice none 0 0) ∧ Below w.heap.size w w') := fun W hW => (H30.out W hW).mono fun e w' ⟨e1, e2⟩ => ⟨by
          rcases e1 with ⟨_, e⟩ | ⟨g, o, k, _, hkl, hd, _⟩
          · exact e
          · rw [hu] at hd
            have := congrArg List.length hd
            rw [List.length_drop] at this
            simp at this
            omega, e2⟩
        clear hM hD hUS hB hk hm hlast H30 hu h1 h2
        generalize lastE s = E at *
        go_enter Tryz.func11, Tryz.ntmps11
        go_wp2_with (first | (go_at_call 9; refine H8.out.mono ?_; rintro e w2 ⟨rfl, hb2⟩) | (go_at_call 23; refine (H29.out _ hb2).mono ?_; rintro e w3 ⟨rfl, hb3⟩) | (go_at_call 24; refine (H30'.out _ hb3).mono ?_; rintro e w4 ⟨rfl, hb4⟩))
        go_ret
        rw [HT.out]
        exact ⟨rfl, HSame.out _ hb4⟩
      | cons x r =>
        obtain ⟨n, hn, hxi, hxn, hrg, _, _, hlen⟩ := unk_first hk (by omega) (by omega) h2 hu
        obtain ⟨k, k1, k2, _, _⟩ := unk_drop s l
        rw [hu] at k2
        have hkl : (x :: r).length = l.length - k := by rw [k2, List.length_drop]
        have hklt : k < l.length := by simp at hkl; omega
        obtain ⟨g, o, hoe, hg, _⟩ := hm (by omega)
        subst hoe
        have hgB' : ¬ B g := hgB (by omega) _ rfl
        have hmx : EAt w (some ⟨g, o + k * 3, none⟩) (x :: r) := by rw [k2]; exact hm.drop k
        have H30' : Hid (∀ W, Below w.heap.size w W → Calls Tryz.prog 24 #[.pointer (some ⟨q, 0, none⟩), .slice (some ⟨g, o, none⟩) l.length cap] W fun e w' => e = .returned (.slice (some ⟨g, o + k * 3, none⟩) (x :: r).length (cap - k)) ∧ Below w.heap.size w w') := fun W hW => (H30.out W hW).mono fun e w' ⟨e1, e2⟩ => ⟨by
          rcases e1 with ⟨e, _⟩ | ⟨g', o', k', hoo, hkl', hd, e⟩
          · rw [hu] at e; cases e
          · cases hoo
            rw [hu] at hd
            have h5 := congrArg List.length hd
            rw [List.length_drop] at h5
            have : k' = k := by omega
            rw [this] at e
            rw [hkl]
            exact e, e2⟩
        obtain ⟨r0, r1, _⟩ := hmx.at_ 0 x rfl
        simp only [Nat.zero_mul, Nat.add_zero] at r0 r1
        have HK : Hid (∀ W, Below w.heap.size w W → W.cell? ⟨g, o + k * 3, none⟩ = some (.int .i64 x.t) ∧ W.cell? ⟨g, o + k * 3 + 1, none⟩ = some (.int .i64 x.i)) := fun W hW => ⟨by rw [World.cell?_of_block (a := ⟨g, o + k * 3, none⟩) (hW.block g hg)]; exact r0, by rw [World.cell?_of_block (a := ⟨g, o + k * 3 + 1, none⟩) (hW.block g hg)]; exact r1⟩
        have hxr := hrg x (by simp)
        have H22 : Hid (∀ W, Below w.heap.size w W → Calls Tryz.prog 22 #[.pointer (some ⟨q, 0, none⟩), .int .i64 x.i] W fun e w' => e = .returned (.agg #[.int .i64 (aheadE s x.i).t, .int .i64 (aheadE s x.i).i, .string (strOf (aheadE s x.i).d)]) ∧ Below w.heap.size w w') := fun W hW => (ahead_any (hM.under hW) hlb x.i (by omega) (by omega)).mono fun e w' ⟨e1, e2⟩ => ⟨e1, hW.trans (e2.mono hW.size)⟩
        have hpos : (0 : Int) < (((x :: r).length : Nat) : Int) := by rw [List.length_cons]; omega
        have hpos2 : 0 < (x :: r).length := by simp
        have hpos3 : (((x :: r).length : Nat) : Int) ≠ 0 := by omega
        have hpos4 : ((((x :: r).length : Nat) : Int) == 0) = false := beq_eq_false_iff_ne.2 hpos3
        have hf38 := field38
        by_cases h3 : x.t < (aheadE s x.i).t
        · have HT : Hid (putE (size - totalA s.fs) s after l = (1, s)) := by show _ = _; unfold putE; rw [if_neg h1, if_neg (fun h => h h2), hu]; simp only; rw [if_pos h3]
          clear hM hD hUS hB hk hm hlast H30 hu h1 h2 hmx hkl hklt k2 hrg hxr hxi hxn hlen hgB hgB' hpos3
          generalize lastE s = E at *
          generalize aheadE s x.i = AH at *
          obtain ⟨xt, xi, xd⟩ := x
          simp only at *
          generalize (⟨xt, xi, xd⟩ :: r : List Et).length = M at *
          go_enter Tryz.func11, Tryz.ntmps11
          go_wp2_with (first | (go_at_call 9; refine H8.out.mono ?_; rintro e w2 ⟨rfl, hb2⟩) | (go_at_call 23; refine (H29.out _ hb2).mono ?_; rintro e w3 ⟨rfl, hb3⟩) | (go_at_call 24; refine (H30'.out _ hb3).mono ?_; rintro e w4 ⟨rfl, hb4⟩; have P4 := HK.out _ hb4))
          go_region_held3 (fun w' => w'.cell? ⟨g, o + k * 3, none⟩ = some (.int .i64 xt) ∧ w'.cell? ⟨g, o + k * 3 + 1, none⟩ = some (.int .i64 xi)) (first | exact P5 | exact P4)
            (first
            | (go_at_call 22; refine (H22.out _ (by first | exact hb4 | exact hb4.drew)).mono ?_; rintro e w5 ⟨rfl, hb5⟩; have P5 := HK.out _ hb5)
            | fail)
          all_goals
            go_wp2_with fail
            go_ret
            rw [HT.out]
            exact ⟨rfl, HSame.out _ hb5⟩
        · obtain ⟨s', hs1⟩ : ∃ s', s' = ({ s with list := s.list.take n ++ (x :: r), hl := true } : LSt) := ⟨_, rfl⟩
          have hs'f : s'.fs = fsOf (some (logB (s.list.take n ++ (x :: r)))) (sB s) (tB s) := by rw [hs1]; rfl
          have hs'm : s'.term = s.term ∧ s'.vote = s.vote ∧ s'.snap = s.snap ∧ s'.list = s.list.take n ++ (x :: r) := by rw [hs1]; exact ⟨rfl, rfl, rfl, rfl⟩
          have HT : Hid (putE (size - totalA s.fs) s after l = if (size - totalA s.fs) + (logB (s.list.drop n)).length < (logB (x :: r)).length then (7, s) else (0, s')) := by
            show _ = _
            unfold putE
            rw [if_neg h1, if_neg (fun h => h h2), hu]
            simp only
            rw [if_neg h3, hxn, hs1]
          have hgU : ¬ U g := fun hU => hgB' ((hB g).2 (.inl hU))
          have hgS : ¬ S g := fun hS => hgB' ((hB g).2 (.inr hS))
          have hmr : ∀ y ∈ x :: r, I64 y.t ∧ I64 y.i ∧ y.d.length ≤ 2048 := fun y hy => by
            have := hrg y hy
            exact ⟨⟨by omega, by omega⟩, ⟨by omega, by omega⟩, this.2.2⟩
          have H31 : Hid (∀ W, Below w.heap.size w W → Calls Tryz.prog 25 #[.pointer (some ⟨q, 0, none⟩), .slice (some ⟨g, o + k * 3, none⟩) (x :: r).length (cap - k)] W fun e w' => WrPost S w a size s s' ((size - totalA s.fs) + (logB (s.list.drop n)).length < (logB (x :: r)).length) e w') := fun W hW => (write_any (hM.under hW) hlb hk (hD.under hW) hUS (hmx.under hW) (by omega) hmr n hn hxi s' hs'f).mono fun e w' hp => by
            rcases hp with ⟨p1, p2, p3⟩ | ⟨p1, p2, p3⟩
            · exact .inl ⟨p1, p2, AfterA.begun hW p3⟩
            · exact .inr ⟨p1, p2, AfterA.begun hW p3⟩
          have H32 : Hid (∀ W, Hid (AfterA S w W a size s'.fs) → Calls Tryz.prog 26 #[.pointer (some ⟨q, 0, none⟩), .slice (some ⟨g, o + k * 3, none⟩) (x :: r).length (cap - k)] W fun e w' => e = .returned (.tuple #[]) ∧ Hid (LDA B w w' q a size s')) := fun W hA => by
            obtain ⟨S', g1, g2, g3, g4⟩ := id hA.out
            have hM1 := hM.beside g4 (fun k hU hS => hUS k hS hU)
            have hm1 : EAt W (some ⟨g, o + k * 3, none⟩) (x :: r) := hmx.kept g4.size (fun j hj hlt => g4.block j hlt (fun hS => by rw [← hj _ rfl] at hS; exact hgS hS))
            exact (lput_any hM1 hlb hm1 (by omega) hgU n hn hxi s' hs'm).mono fun e w' ⟨e1, e2⟩ => ⟨e1, LDA.of hM hD hUS hB hA.out (fun _ => e2)⟩
          have HNo : Hid (∀ W, AfterA S w W a size s.fs → LDA B w W q a size s) := fun W hA => LDA.of hM hD hUS hB hA (fun hM1 => LAfter.same hM1 (Below.refl _ _))
          clear hM hD hUS hB hk hm hlast H30 hu h1 h2 hmx hkl hklt k2 hrg hxr hxi hxn hlen hgB hgB' hpos3 hs1 hs'f hs'm hgU hgS hmr
          generalize lastE s = E at *
          generalize aheadE s x.i = AH at *
          obtain ⟨xt, xi, xd⟩ := x
          simp only at *
          generalize (⟨xt, xi, xd⟩ :: r : List Et).length = M at *
          by_cases hfull : (size - totalA s.fs) + (logB (s.list.drop n)).length < (logB (⟨xt, xi, xd⟩ :: r)).length
          · rw [if_pos hfull] at HT
            have H31' : Hid (∀ W, Below w.heap.size w W → Calls Tryz.prog 25 #[.pointer (some ⟨q, 0, none⟩), .slice (some ⟨g, o + k * 3, none⟩) M (cap - k)] W fun e w' => e = .returned (.int .i64 7) ∧ Hid (AfterA S w w' a size s.fs)) := fun W hW => (H31.out W hW).mono fun e w' hp => by
              rcases hp with ⟨p1, p2, p3⟩ | ⟨p1, p2, p3⟩
              · exact ⟨p2, p3⟩
              · exact absurd hfull p1
            clear H31 hfull
            go_enter Tryz.func11, Tryz.ntmps11
            go_wp2_with (first | (go_at_call 9; refine H8.out.mono ?_; rintro e w2 ⟨rfl, hb2⟩) | (go_at_call 23; refine (H29.out _ hb2).mono ?_; rintro e w3 ⟨rfl, hb3⟩) | (go_at_call 24; refine (H30'.out _ hb3).mono ?_; rintro e w4 ⟨rfl, hb4⟩; have P4 := HK.out _ hb4))
            go_region_held3 (fun w' => w'.cell? ⟨g, o + k * 3, none⟩ = some (.int .i64 xt) ∧ w'.cell? ⟨g, o + k * 3 + 1, none⟩ = some (.int .i64 xi)) (first | exact P5 | exact P4)
              (first
              | (go_at_call 22; refine (H22.out _ (by first | exact hb4 | exact hb4.drew)).mono ?_; rintro e w5 ⟨rfl, hb5⟩; have P5 := HK.out _ hb5)
              | fail)
            all_goals
              go_wp2_with (go_at_call 25; refine (H31'.out _ (by first | exact hb5 | exact hb5.drew)).mono ?_; rintro e w6 ⟨rfl, HA6⟩)
              go_ret
              rw [HT.out]
              exact ⟨rfl, HNo.out _ HA6.out⟩
          · rw [if_neg hfull] at HT
            have H31' : Hid (∀ W, Below w.heap.size w W → Calls Tryz.prog 25 #[.pointer (some ⟨q, 0, none⟩), .slice (some ⟨g, o + k * 3, none⟩) M (cap - k)] W fun e w' => e = .returned (.int .i64 0) ∧ Hid (AfterA S w w' a size s'.fs)) := fun W hW => (H31.out W hW).mono fun e w' hp => by
              rcases hp with ⟨p1, p2, p3⟩ | ⟨p1, p2, p3⟩
              · exact absurd p1 hfull
              · exact ⟨p2, p3⟩
            clear H31 hfull
            go_enter Tryz.func11, Tryz.ntmps11
            go_wp2_with (first | (go_at_call 9; refine H8.out.mono ?_; rintro e w2 ⟨rfl, hb2⟩) | (go_at_call 23; refine (H29.out _ hb2).mono ?_; rintro e w3 ⟨rfl, hb3⟩) | (go_at_call 24; refine (H30'.out _ hb3).mono ?_; rintro e w4 ⟨rfl, hb4⟩; have P4 := HK.out _ hb4))
            go_region_held3 (fun w' => w'.cell? ⟨g, o + k * 3, none⟩ = some (.int .i64 xt) ∧ w'.cell? ⟨g, o + k * 3 + 1, none⟩ = some (.int .i64 xi)) (first | exact P5 | exact P4)
              (first
              | (go_at_call 22; refine (H22.out _ (by first | exact hb4 | exact hb4.drew)).mono ?_; rintro e w5 ⟨rfl, hb5⟩; have P5 := HK.out _ hb5)
              | fail)
            all_goals
              go_wp2_with (first | (go_at_call 25; refine (H31'.out _ (by first | exact hb5 | exact hb5.drew)).mono ?_; rintro e w6 ⟨rfl, HA6⟩) | (go_at_call 26; refine (H32.out _ HA6).mono ?_; rintro e w7 ⟨rfl, HL7⟩))
              go_ret
              rw [HT.out]
              exact ⟨rfl, HL7.out⟩
    · have HT : Hid (putE (size - totalA s.fs) s after l = (rightE after 0 1 l, s)) := by show _ = _; unfold putE; rw [if_neg h1, if_pos h2]
      have h2' : ((rightE after 0 1 l : Int) != 0) = true := by simp; omega
      clear hM hD hUS hB hk hm hlast h1 h2
      generalize lastE s = E at *
      generalize rightE after 0 1 l = R at *
      go_enter Tryz.func11, Tryz.ntmps11
      go_wp2_with (first | (go_at_call 9; refine H8.out.mono ?_; rintro e w2 ⟨rfl, hb2⟩) | (go_at_call 23; refine (H29.out _ hb2).mono ?_; rintro e w3 ⟨rfl, hb3⟩))
      go_ret
      rw [HT.out]
      exact ⟨rfl, HSame.out _ hb3⟩
end Go.Proofs.YtclldpecbocclaaGreat

