/- Load. -/
import Derived.Test.YtkdbclnnmpnfgaaHD24
namespace Go.Proofs.Ytkdbclnnmpnfgaa
open Go.RowKit Go.Maps
set_option maxRecDepth 100000
set_option linter.unusedSimpArgs false
set_option linter.unusedVariables false

/-- What Load leaves. -/
def LoadPost (w w' : World) (R : Tb × Int) (e : Ending) : Prop :=
  Below w.heap.size w w' ∧ ((R.2 = 0 ∧ ∃ (q : Nat) (S : Nat → Prop), e = .returned (.tuple #[.pointer (some ⟨q, 0, none⟩), .int .i64 0]) ∧ Tab w' S q R.1 ∧ ∀ k, S k → w.heap.size ≤ k) ∨ (R.2 ≠ 0 ∧ e = .returned (.tuple #[.pointer none, .int .i64 R.2])))
theorem LoadPost.no {w w' : World} {R : Tb × Int} {E : Int} (h : R.2 = E) (hE : E ≠ 0) (hb : Below w.heap.size w w') : LoadPost w w' R (.returned (.tuple #[.pointer none, .int .i64 E])) := ⟨hb, .inr ⟨by rw [h]; exact hE, by rw [h]⟩⟩
theorem LoadPost.yes {w w' : World} {R : Tb × Int} {rq q : Nat} {s : RS} {T : Tb} (h : R = (T, 0)) (hl : LdAt w w' rq s q T) : LoadPost w w' R (.returned (.tuple #[.pointer (some ⟨q, 0, none⟩), .int .i64 0])) := by
  obtain ⟨S, b, fs, a1, a2, a3, a4, a5, a6⟩ := hl
  exact ⟨a6, .inl ⟨by rw [h], q, S, rfl, ⟨b, fs, a1, by rw [h]; exact a2⟩, fun k hk => (a3 k hk).1⟩⟩
theorem LdAt.below {w wr : World} {rq : Nat} {s : RS} {q : Nat} {T : Tb} (h : LdAt w wr rq s q T) : Below w.heap.size w wr := by
  obtain ⟨S, b, fs, a1, a2, a3, a4, a5, a6⟩ := h; exact a6

set_option maxHeartbeats 12800000 in
theorem load_any (b : List UInt8) (w : World) (hb : b.length ≤ 100000) :
    Calls Try.prog 20 #[.string (strOf b)] w fun e w' => LoadPost w w' (loadL b) e := by
  have HU := hid (punseal_any b w (by omega))
  have HL : Hid (loadL b = if b.length < 4 then ([], 5) else if fourN b ≠ crcL (b.drop 4) then ([], 6) else loadR (b.drop 4)) := rfl
  by_cases h4 : b.length < 4
  · have HE : Hid ((loadL b).2 = 5) := by show _ = _; rw [HL.out, if_pos h4]
    rw [if_pos h4] at HU
    clear HL
    generalize loadL b = R at *
    go_enter Try.func20, Try.ntmps20
    go_wp2_with fail
    refine HU.out.mono ?_
    rintro e w1 ⟨rfl, rfl⟩
    go_wp2_with fail
    go_ret2
    exact LoadPost.no HE.out (by decide) (Below.refl _ _)
  · rw [if_neg h4] at HU
    by_cases h6 : fourN b ≠ crcL (b.drop 4)
    · have HE : Hid ((loadL b).2 = 6) := by show _ = _; rw [HL.out, if_neg h4, if_pos h6]
      rw [if_pos h6] at HU
      clear HL
      generalize loadL b = R at *
      go_enter Try.func20, Try.ntmps20
      go_wp2_with fail
      refine HU.out.mono ?_
      rintro e w1 ⟨rfl, rfl⟩
      go_wp2_with fail
      go_ret2
      exact LoadPost.no HE.out (by decide) (Below.refl _ _)
    · rw [if_neg h6] at HU
      have HE : Hid (loadL b = loadR (b.drop 4)) := by show _ = _; rw [HL.out, if_neg h4, if_neg h6]
      have hrl : (b.drop 4).length ≤ 100000 := by rw [List.length_drop]; omega
      clear HL h4 h6
      generalize b.drop 4 = rest at *
      generalize loadL b = R at *
      have hsz := strOf_size rest
      have HC0 : Hid (loadR rest = match tabS (rest.length : Int) (countS (rest.length : Int) ⟨rest, false⟩).1.toNat 0 [] (countS (rest.length : Int) ⟨rest, false⟩).2 with | none => (([], 4) : Tb × Int) | some (T, s) => if doneS s = true then (T, 0) else ([], 4)) := rfl
      have hcr := countS_range (rest.length : Int) ⟨rest, false⟩ (by omega)
      have hcu := count_rest (rest.length : Int) ⟨rest, false⟩
      go_enter Try.func20, Try.ntmps20
      go_wp2_with fail
      refine HU.out.mono ?_
      rintro e w1 ⟨rfl, hw1⟩
      subst hw1
      go_wp2_with fail
      refine (new_any _).mono ?_
      rintro e w2 ⟨q, S, rfl, ht2, hs2, hb2⟩
      have HT2 := hid ht2
      have HS2 := hid hs2
      have HB2 := hid hb2
      clear ht2 hs2 hb2 HU
      go_wp2_with fail
      refine (pread_any rest w2 (by unfold maxLen; omega)).mono ?_
      rintro e w3 ⟨rfl, hp3, hb3⟩
      have H3 : Hid (LdAt w1 w3 w2.heap.size ⟨rest, false⟩ q []) := by
        obtain ⟨b0, fs, t1, t2⟩ := HT2.out
        exact ⟨S, b0, fs, t1.under hb3, t2, fun k hk => ⟨HS2.out k hk, fun e => by have := t1.below k hk; omega⟩, hp3, HB2.out.size, HB2.out.trans (hb3.mono HB2.out.size)⟩
      clear hp3 hb3 HT2 HS2 HB2
      have HPc := hid (pcount_any H3.out.rd (rest.length : Int) (by omega))
      generalize countS (rest.length : Int) ⟨rest, false⟩ = C at *
      obtain ⟨c, s1⟩ := C
      simp only at *
      obtain ⟨n, hn⟩ : ∃ n : Nat, c = (n : Int) := ⟨c.toNat, by omega⟩
      subst hn
      rw [Int.toNat_natCast] at HC0
      go_wp2_with fail
      refine HPc.out.mono ?_
      rintro e w4 ⟨rfl, hp4, hg4⟩
      have H4 := hid (H3.out.read hp4 hg4)
      clear hp4 hg4 HPc H3
      generalize w2.heap.size = rq at *
      go_wp2_with fail
      go_loopg [8, 26] n (fun kx s8 s26 wr => ∃ (j : Nat) (last : Int) (T : Tb) (sr : RS), j ≤ n ∧ n - j ≤ kx ∧ s26 = .int .i64 (j : Int) ∧ s8 = .int .i64 last ∧ 0 ≤ last ∧ last ≤ 1000000000 ∧ Hid (LdAt w1 wr rq sr q T ∧ tabS (rest.length : Int) n 0 [] s1 = tabS (rest.length : Int) (n - j) last T sr ∧ (∀ p ∈ T, p.1 ≤ last) ∧ cntT T + sr.rest.length ≤ rest.length))
      case atStart => exact ⟨0, 0, [], s1, by omega, by omega, rfl, rfl, by omega, by omega, H4.out, rfl, (fun p hp => by cases hp), by simp [cntT]; exact hcu⟩
      case round =>
        obtain ⟨j, last, T, sr, hjn, hjk, rfl, rfl, hl0, hl1, HJ⟩ := hrel
        clear H4
        by_cases hlt : j < n
        · have hlt' : (j : Int) < (n : Int) := by omega
          have HS : Hid (tabS (rest.length : Int) (n - j) last T sr = if badP last (numS sr).1 (notesR (rest.length : Int) (numS sr).2).1 = true then none else tabS (rest.length : Int) (n - (j + 1)) (numS sr).1 (T ++ [((numS sr).1, (notesR (rest.length : Int) (numS sr).2).1)]) (notesR (rest.length : Int) (numS sr).2).2) := by
            show _ = _
            have e : n - j = (n - (j + 1)) + 1 := by omega
            rw [e]
            rfl
          have hu1 := num_rest sr
          have hu2 := notesR_used (rest.length : Int) (numS sr).2
          have P1 := hid (pnum_any HJ.out.1.rd)
          have i1 := numI64 sr
          generalize numS sr = N1 at *
          obtain ⟨pid, r1⟩ := N1
          simp only at *
          go_wp2_with fail
          refine P1.out.mono ?_
          rintro e w5 ⟨rfl, hp5, hg5⟩
          have H5 := hid (HJ.out.1.read hp5 hg5)
          have P2 := hid (readNotes_any hp5 rest.length hrl)
          clear hp5 hg5 P1
          generalize notesR (rest.length : Int) r1 = NR at *
          obtain ⟨l, r2⟩ := NR
          simp only at *
          go_wp2_with fail
          refine P2.out.mono ?_
          rintro e w6 ⟨v6, rfl, hr6, hl6, hn6⟩
          obtain ⟨sa, sc, hsv, _⟩ := hr6.nl.shape
          subst hsv
          have H6 := hid hr6
          have HL6 := hid hl6
          have H56 := hid (H5.out.read hr6.rd hr6.grown)
          clear hr6 hl6 P2
          have HN := hid (fun w => isNumber_any pid w i1)
          have HB : Hid (badP last pid l = (decide (pid ≤ last) || !inB pid || decide (l.length = 0))) := rfl
          have i1' := i1
          unfold I64 at i1'
          by_cases c1 : pid ≤ last
          · have HE4 : Hid (R.2 = 4) := by
              show _ = _
              have : badP last pid l = true := by rw [HB.out]; simp [c1]
              rw [HE.out, HC0.out, HJ.out.2.1, HS.out, if_pos this]
            go_wp2_with fail
            go_ret2
            exact LoadPost.no HE4.out (by decide) H56.out.below
          · cases c2 : inB pid with
            | false =>
              have HE4 : Hid (R.2 = 4) := by
                show _ = _
                have : badP last pid l = true := by rw [HB.out, c2]; simp
                rw [HE.out, HC0.out, HJ.out.2.1, HS.out, if_pos this]
              rw [c2] at HN
              clear c2
              go_wp2_with fail
              refine (HN.out _).mono ?_; rintro e w7 ⟨rfl, rfl⟩
              go_wp2_with fail
              go_ret2
              exact LoadPost.no HE4.out (by decide) H56.out.below
            | true =>
              have hpb := inB_of c2
              by_cases c3 : l.length = 0
              · have HE4 : Hid (R.2 = 4) := by
                  show _ = _
                  have : badP last pid l = true := by rw [HB.out]; simp [c3]
                  rw [HE.out, HC0.out, HJ.out.2.1, HS.out, if_pos this]
                rw [c2] at HN
                rw [c3]
                clear c2 c3
                go_wp2_with fail
                refine (HN.out _).mono ?_; rintro e w7 ⟨rfl, rfl⟩
                go_wp2_with fail
                go_ret2
                exact LoadPost.no HE4.out (by decide) H56.out.below
              · have hbad : badP last pid l = false := by
                  rw [HB.out, c2]
                  have d1 : decide (pid ≤ last) = false := decide_eq_false c1
                  have d3 : decide (l.length = 0) = false := decide_eq_false c3
                  rw [d1, d3]; rfl
                have HNx : Hid (tabS (rest.length : Int) n 0 [] s1 = tabS (rest.length : Int) (n - (j + 1)) pid (T ++ [(pid, l)]) r2) := by
                  show _ = _
                  rw [HJ.out.2.1, HS.out, hbad]; rfl
                have hcu2 := HJ.out.2.2.2
                have HLE : Hid (∀ p ∈ T ++ [(pid, l)], p.1 ≤ pid) := fun p hp => by
                  rcases List.mem_append.1 hp with hp | hp
                  · have := HJ.out.2.2.1 p hp; omega
                  · simp at hp; subst hp; exact Int.le_refl _
                obtain ⟨b0, cq, w7, hrun, hld⟩ := H5.out.put H6.out (pid := pid) (by omega) HL6.out (fun e => c3 (by rw [e]; rfl)) (fun p hp => by have := HJ.out.2.2.1 p hp; omega) (by omega)
                have HLD := hid hld
                have HCn : Hid (cntT (T ++ [(pid, l)]) + r2.rest.length ≤ rest.length) := by
                  have e : ∀ (A B : Tb), cntT (A ++ B) = cntT A + cntT B := fun A B => by
                    induction A with
                    | nil => simp [cntT]
                    | cons y r ih => simp only [List.cons_append, cntT, ih]; omega
                  show _ ≤ _
                  rw [e]
                  simp only [cntT]
                  omega
                rw [c2] at HN
                clear c2 hbad hld hcu2
                have c3' : ((l.length : Int) == 0) = false := by rw [beq_eq_false_iff_ne]; omega
                have c3'' : ¬ ((l.length : Int) = 0) := by omega
                go_wp2_with fail
                refine (HN.out _).mono ?_; rintro e w8 ⟨rfl, rfl⟩
                go_wp2_with fail
                go_roundg (n - (j + 1))
                case measure => omega
                case rel => exact ⟨j + 1, pid, T ++ [(pid, l)], r2, by omega, Nat.le_refl _, by go_num, rfl, by omega, by omega, HLD.out, HNx.out, HLE.out, HCn.out⟩
        · have hlt' : ¬ (j : Int) < (n : Int) := by omega
          have e0 : n - j = 0 := by omega
          have HF : Hid (loadR rest = if doneS sr = true then ((T, 0) : Tb × Int) else ([], 4)) := by
            show _ = _
            rw [HC0.out, HJ.out.2.1, e0]; rfl
          have HD := hid (pdone_any HJ.out.1.rd)
          cases hd : doneS sr with
          | true =>
            rw [hd] at HD
            have HY : Hid (R = (T, 0)) := by show _ = _; rw [HE.out, HF.out, hd]; rfl
            clear hd
            go_wp2_with fail
            refine HD.out.mono ?_; rintro e w7 ⟨rfl, rfl⟩
            go_wp2_with fail
            go_ret2
            exact LoadPost.yes HY.out HJ.out.1
          | false =>
            rw [hd] at HD
            have HE4 : Hid (R.2 = 4) := by show _ = _; rw [HE.out, HF.out, hd]; rfl
            clear hd
            go_wp2_with fail
            refine HD.out.mono ?_; rintro e w7 ⟨rfl, rfl⟩
            go_wp2_with fail
            go_ret2
            exact LoadPost.no HE4.out (by decide) HJ.out.1.below
end Go.Proofs.Ytkdbclnnmpnfgaa

