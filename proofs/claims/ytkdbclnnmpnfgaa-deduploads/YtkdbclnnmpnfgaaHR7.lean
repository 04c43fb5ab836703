/- The document's Ask, walked. -/
import Derived.Test.YtkdbclnnmpnfgaaHR6
namespace Go.Proofs.Ytkdbclnnmpnfgaa
open Go.RowKit Go.Maps
set_option maxRecDepth 100000
set_option linter.unusedSimpArgs false
set_option linter.unusedVariables false

theorem find_now {α : Type} (p : α → Bool) : ∀ (l : List α) (i : Nat) (x : α), (l.take i).find? p = none → l[i]? = some x → p x = true → l.find? p = some x
  | [], i, x, _, h, _ => by simp at h
  | y :: r, 0, x, _, h, hp => by simp at h; subst h; rw [List.find?_cons, hp]
  | y :: r, i + 1, x, h0, h, hp => by
    rw [List.take_succ_cons, List.find?_cons] at h0
    cases hy : p y with
    | true => rw [hy] at h0; simp at h0
    | false => rw [hy] at h0; rw [List.find?_cons, hy]; exact find_now p r i x h0 (by simpa using h) hp
theorem find_step {α : Type} (p : α → Bool) (l : List α) (i : Nat) (x : α) (h0 : (l.take i).find? p = none) (h : l[i]? = some x) (hp : p x = false) : (l.take (i + 1)).find? p = none := by
  have hi := (List.getElem?_eq_some_iff.1 h)
  obtain ⟨h1, h2⟩ := hi
  rw [List.take_succ_eq_append_getElem h1, List.find?_append, h0, h2]
  simp [hp]
theorem within_inB (n : Int) (w : World) (hn : I64 n) : Calls Try.prog 36 #[.int .i64 n, .int .i64 1000000000] w fun e w' => e = .returned (.bool (inB n)) ∧ w = w' := within_any n 1000000000 w hn

set_option maxHeartbeats 6400000 in
theorem rask_any {w : World} {r : Nat} {v : Value} {ms : List Mk} (h : RT w r v ms) (pid ep seq n : Int) (hL : LOk ((ofM pid ms).map (·.2))) (hp : I64 pid) (he : I64 ep) (hs : I64 seq) (hn : I64 n) :
    Calls Try.prog 15 #[.pointer (some ⟨r, 0, none⟩), .int .i64 pid, .int .i64 ep, .int .i64 seq, .int .i64 n] w fun e w' =>
      e = .returned (.tuple #[.int .i64 (askL ((ofM pid ms).map (·.2)) pid ep seq n).1, .int .i64 (askL ((ofM pid ms).map (·.2)) pid ep seq n).2]) ∧ Below w.heap.size w w' := by
  have HP := hid (fun w => within_inB pid w hp)
  have HE := hid (fun w => within_inB ep w he)
  have HS := hid (fun w => within_inB seq w hs)
  have HA : Hid (∀ l : List Nt, argB pid ep seq n = false → askL l pid ep seq n = (-1, 1)) := fun l => ask_arg
  have HAr : Hid (argB pid ep seq n = (inB pid && inB ep && inB seq && (decide (1 ≤ n) && decide (n ≤ 64)) && !(decide (pid = 0) && (!decide (ep = 0) || !decide (seq = 0))))) := rfl
  have HAs : Hid (∀ l : List Nt, askL l pid ep seq n = if argB pid ep seq n = false then ((-1, 1) : Int × Int) else if pid = 0 then (-1, 0) else if 1000000 - (n - 1) < seq then (-1, 20) else findL l ep seq n) := fun l => rfl
  have hoflen : (ofM pid ms).length ≤ 100000 := Nat.le_trans (List.length_filter_le _ _) h.few
  have HOf : Hid (Calls Try.prog 31 #[.pointer (some ⟨r, 0, none⟩), .int .i64 pid] w fun e w' => ∃ v', e = .returned v' ∧ ML w' w.heap.size v' (ofM pid ms) ∧ Below w.heap.size w w') := of_any h pid
  have HTop : Hid (∀ (w1 : World) (v' : Value), ML w1 w.heap.size v' (ofM pid ms) → Calls Try.prog 32 #[v'] w1 fun e w' => TopPost w1 w' (ofM pid ms) e) := fun w1 v' hm => top_any hm hL hoflen
  have HDoc : Hid (0 ≤ ep → 0 ≤ seq → docF (ofM pid ms) ep seq n = findL ((ofM pid ms).map (·.2)) ep seq n) := fun a b => docF_eq _ hL _ _ _ a b
  have HTL : Hid (∀ x ∈ topL (ofM pid ms), NtOk x.2) := topL_ok hL
  have hEr : -1 ≤ tE (ofM pid ms) ∧ tE (ofM pid ms) ≤ 1000000000 := by
    cases hz : ((ofM pid ms).map (·.2))[((ofM pid ms).map (·.2)).length - 1]? with
    | none => have : tE (ofM pid ms) = -1 := by unfold tE lastEp; rw [hz]
              omega
    | some z =>
      have e1 : tE (ofM pid ms) = z.ep := by unfold tE lastEp; rw [hz]
      have := (hL.all z (List.mem_of_getElem? hz)).ep
      omega
  have HTlen : Hid ((topL (ofM pid ms)).length ≤ 100000) := by
    show _ ≤ _
    unfold topL fE
    rw [List.length_drop]
    have := List.length_filter_le (fun m : Mk => decide (m.2.ep = tE (ofM pid ms))) (ofM pid ms)
    omega
  have HD : Hid (docF (ofM pid ms) ep seq n = if tE (ofM pid ms) < ep then (if seq = 0 then ((-1, 0) : Int × Int) else (-1, 11)) else if ep < tE (ofM pid ms) then (-1, 13) else match (topL (ofM pid ms)).find? (seqN seq n) with | some x => (x.2.off, 0) | none => if seq = nE (tE (ofM pid ms)) (ofM pid ms) then (-1, 0) else if nE (tE (ofM pid ms)) (ofM pid ms) < seq then (-1, 11) else (-1, 12)) := rfl
  clear h hL
  unfold I64 at hp he hs hn
  generalize ofM pid ms = O at *
  generalize hlN : O.map (·.2) = l at *
  clear hlN
  cases b1 : inB pid with
  | false =>
    rw [b1] at HP HAr
    have HF := hid (HA.out l (by rw [HAr.out]; rfl))
    clear b1
    go_enter Try.func15, Try.ntmps15
    go_wp2_with fail
    refine (HP.out _).mono ?_; rintro e w1 ⟨rfl, rfl⟩
    go_wp2_with fail
    refine (HE.out _).mono ?_; rintro e w1 ⟨rfl, rfl⟩
    go_wp2_with fail
    refine (HS.out _).mono ?_; rintro e w1 ⟨rfl, rfl⟩
    go_wp2_with fail
    go_ret2
    exact ⟨by rw [HF.out]; rfl, Below.refl _ _⟩
  | true =>
    have q1 := inB_of b1
    rw [b1] at HP HAr
    clear b1
    cases b2 : inB ep with
    | false =>
      rw [b2] at HE HAr
      have HF := hid (HA.out l (by rw [HAr.out]; rfl))
      clear b2
      go_enter Try.func15, Try.ntmps15
      go_wp2_with fail
      refine (HP.out _).mono ?_; rintro e w1 ⟨rfl, rfl⟩
      go_wp2_with fail
      refine (HE.out _).mono ?_; rintro e w1 ⟨rfl, rfl⟩
      go_wp2_with fail
      refine (HS.out _).mono ?_; rintro e w1 ⟨rfl, rfl⟩
      go_wp2_with fail
      go_ret2
      exact ⟨by rw [HF.out]; rfl, Below.refl _ _⟩
    | true =>
      have q2 := inB_of b2
      rw [b2] at HE HAr
      clear b2
      cases b3 : inB seq with
      | false =>
        rw [b3] at HS HAr
        have HF := hid (HA.out l (by rw [HAr.out]; rfl))
        clear b3
        go_enter Try.func15, Try.ntmps15
        go_wp2_with fail
        refine (HP.out _).mono ?_; rintro e w1 ⟨rfl, rfl⟩
        go_wp2_with fail
        refine (HE.out _).mono ?_; rintro e w1 ⟨rfl, rfl⟩
        go_wp2_with fail
        refine (HS.out _).mono ?_; rintro e w1 ⟨rfl, rfl⟩
        go_wp2_with fail
        go_ret2
        exact ⟨by rw [HF.out]; rfl, Below.refl _ _⟩
      | true =>
        have q3 := inB_of b3
        rw [b3] at HS HAr
        clear b3
        by_cases n1 : n < 1
        · have HF := hid (HA.out l (by rw [HAr.out]; have : decide (1 ≤ n) = false := by simpa using n1
                                       rw [this]; rfl))
          go_enter Try.func15, Try.ntmps15
          go_wp2_with fail
          refine (HP.out _).mono ?_; rintro e w1 ⟨rfl, rfl⟩
          go_wp2_with fail
          refine (HE.out _).mono ?_; rintro e w1 ⟨rfl, rfl⟩
          go_wp2_with fail
          refine (HS.out _).mono ?_; rintro e w1 ⟨rfl, rfl⟩
          go_wp2_with fail
          go_ret2
          exact ⟨by rw [HF.out]; rfl, Below.refl _ _⟩
        by_cases n2 : 64 < n
        · have HF := hid (HA.out l (by rw [HAr.out]; have : decide (n ≤ 64) = false := by simpa using n2
                                       rw [this]; simp))
          go_enter Try.func15, Try.ntmps15
          go_wp2_with fail
          refine (HP.out _).mono ?_; rintro e w1 ⟨rfl, rfl⟩
          go_wp2_with fail
          refine (HE.out _).mono ?_; rintro e w1 ⟨rfl, rfl⟩
          go_wp2_with fail
          refine (HS.out _).mono ?_; rintro e w1 ⟨rfl, rfl⟩
          go_wp2_with fail
          go_ret2
          exact ⟨by rw [HF.out]; rfl, Below.refl _ _⟩
        have b4 : (decide (1 ≤ n) && decide (n ≤ 64)) = true := by simp; omega
        rw [b4] at HAr
        clear b4
        by_cases hp0 : pid = 0
        · subst hp0
          by_cases he0 : ep = 0
          · subst he0
            by_cases hs0 : seq = 0
            · subst hs0
              have HF : Hid (askL l 0 0 0 n = (-1, 0)) := by show _ = _; rw [HAs.out, if_neg (by rw [HAr.out]; decide), if_pos rfl]
              go_enter Try.func15, Try.ntmps15
              go_wp2_with fail
              refine (HP.out _).mono ?_; rintro e w1 ⟨rfl, rfl⟩
              go_wp2_with fail
              refine (HE.out _).mono ?_; rintro e w1 ⟨rfl, rfl⟩
              go_wp2_with fail
              refine (HS.out _).mono ?_; rintro e w1 ⟨rfl, rfl⟩
              go_wp2_with fail
              go_ret2
              exact ⟨by rw [HF.out]; rfl, Below.refl _ _⟩
            · have HF := hid (HA.out l (by rw [HAr.out]; simp [hs0]))
              have hs0' : (seq != 0) = true := by simpa using hs0
              go_enter Try.func15, Try.ntmps15
              go_wp2_with fail
              refine (HP.out _).mono ?_; rintro e w1 ⟨rfl, rfl⟩
              go_wp2_with fail
              refine (HE.out _).mono ?_; rintro e w1 ⟨rfl, rfl⟩
              go_wp2_with fail
              refine (HS.out _).mono ?_; rintro e w1 ⟨rfl, rfl⟩
              go_wp2_with fail
              all_goals first
                | (exfalso; rename_i hq; have hq2 := hq.2; simp at hq2; omega)
                | (exfalso; rename_i hq _; have hq2 := hq.2; simp at hq2; omega)
                | (go_ret2; exact ⟨by rw [HF.out]; rfl, Below.refl _ _⟩)
          · have HF := hid (HA.out l (by rw [HAr.out]; simp [he0]))
            have he0' : (ep != 0) = true := by simpa using he0
            go_enter Try.func15, Try.ntmps15
            go_wp2_with fail
            refine (HP.out _).mono ?_; rintro e w1 ⟨rfl, rfl⟩
            go_wp2_with fail
            refine (HE.out _).mono ?_; rintro e w1 ⟨rfl, rfl⟩
            go_wp2_with fail
            refine (HS.out _).mono ?_; rintro e w1 ⟨rfl, rfl⟩
            go_wp2_with fail
            all_goals first
              | (exfalso; rename_i hq; have hq2 := hq.2; simp at hq2; omega)
              | (exfalso; rename_i hq _; have hq2 := hq.2; simp at hq2; omega)
              | (go_ret2; exact ⟨by rw [HF.out]; rfl, Below.refl _ _⟩)
        have hp0' : (pid == 0) = false := by simpa using hp0
        have HAT : Hid (argB pid ep seq n = true) := by show _ = _; rw [HAr.out]; simp [hp0]
        have hnw : IntKind.i64.wrap (n - 1) = n - 1 := IntWalk.i64_in _ (by omega)
        have hnw2 : IntKind.i64.wrap (1000000 - (n - 1)) = 1000000 - (n - 1) := IntWalk.i64_in _ (by omega)
        by_cases ho : 1000000 - (n - 1) < seq
        · have HF : Hid (askL l pid ep seq n = (-1, 20)) := by show _ = _; rw [HAs.out, if_neg (by rw [HAT.out]; simp), if_neg hp0, if_pos ho]
          go_enter Try.func15, Try.ntmps15
          go_wp2_with fail
          refine (HP.out _).mono ?_; rintro e w1 ⟨rfl, rfl⟩
          go_wp2_with fail
          refine (HE.out _).mono ?_; rintro e w1 ⟨rfl, rfl⟩
          go_wp2_with fail
          refine (HS.out _).mono ?_; rintro e w1 ⟨rfl, rfl⟩
          go_wp2_with fail
          go_ret2
          exact ⟨by rw [HF.out]; rfl, Below.refl _ _⟩
        have HF : Hid (askL l pid ep seq n = docF O ep seq n) := by show _ = _; rw [HAs.out, if_neg (by rw [HAT.out]; simp), if_neg hp0, if_neg ho, HDoc.out (by omega) (by omega)]
        have HB0 : Hid (Below w.heap.size w w) := Below.refl _ _
        go_enter Try.func15, Try.ntmps15
        go_wp2_with fail
        refine (HP.out _).mono ?_; rintro e w1 ⟨rfl, rfl⟩
        go_wp2_with fail
        refine (HE.out _).mono ?_; rintro e w1 ⟨rfl, rfl⟩
        go_wp2_with fail
        refine (HS.out _).mono ?_; rintro e w1 ⟨rfl, rfl⟩
        go_wp2_with fail
        refine (HOf.out).mono ?_
        rintro e w1 ⟨v1, rfl, hm1, hb1⟩
        have HM1 := hid hm1
        have HB1 := hid hb1
        have HC1 := hid (HTop.out w1 v1 hm1)
        obtain ⟨oa1, cap1, hv1, _⟩ := hm1.shape
        clear hm1 hb1
        subst hv1
        go_wp2_with fail
        refine (HC1.out).mono ?_
        rintro e w2 ⟨a2, c2, rfl, hms, hb2⟩
        have HMS := hid hms
        have HB2 : Hid (Below w.heap.size w w2) := HB1.out.trans (hb2.mono HB1.out.size)
        clear hms hb2
        generalize tE O = E at *
        generalize topL O = TL at *
        generalize nE E O = NX at *
        by_cases c1 : E < ep
        · by_cases hs0 : seq = 0
          · subst hs0
            have HF2 : Hid (askL l pid ep 0 n = (-1, 0)) := by show _ = _; rw [HF.out, HD.out, if_pos c1, if_pos rfl]
            go_wp2_with fail
            go_ret2
            exact ⟨by rw [HF2.out]; rfl, HB2.out⟩
          · have HF2 : Hid (askL l pid ep seq n = (-1, 11)) := by show _ = _; rw [HF.out, HD.out, if_pos c1, if_neg hs0]
            have hs0' : (seq == 0) = false := by simpa using hs0
            go_wp2_with fail
            go_ret2
            exact ⟨by rw [HF2.out]; rfl, HB2.out⟩
        by_cases c2' : ep < E
        · have HF2 : Hid (askL l pid ep seq n = (-1, 13)) := by show _ = _; rw [HF.out, HD.out, if_neg c1, if_pos c2']
          go_wp2_with fail
          go_ret2
          exact ⟨by rw [HF2.out]; rfl, HB2.out⟩
        have HF2 : Hid (askL l pid ep seq n = match TL.find? (seqN seq n) with | some x => (x.2.off, 0) | none => if seq = NX then (-1, 0) else if NX < seq then (-1, 11) else (-1, 12)) := by show _ = _; rw [HF.out, HD.out, if_neg c1, if_neg c2']
        have hTlen : TL.length ≤ 100000 := HTlen.out
        clear HD HF HDoc HAs HAr HA
        go_wp2_with fail
        go_loopg [18] TL.length (fun kx s18 wr => ∃ (k : Nat), k ≤ TL.length ∧ TL.length - k ≤ kx ∧ s18 = .int .i64 (k : Int) ∧ wr = w2 ∧ Hid ((TL.take k).find? (seqN seq n) = none))
        case atStart => exact ⟨0, by omega, by omega, rfl, rfl, by show _ = _; simp⟩
        case round =>
          obtain ⟨k, hkl, hkx, rfl, hwr, HN⟩ := hrel
          have hwr' := hwr.symm
          subst hwr'
          clear hwr
          by_cases hlt : k < TL.length
          · have hlt' : (k : Int) < (TL.length : Int) := by omega
            have hx : TL[k]? = some TL[k] := List.getElem?_eq_getElem hlt
            rcases HMS.out with h0 | ⟨g, off, rfl, hg, hcl⟩
            · exfalso; rw [h0] at hlt; simp at hlt
            obtain ⟨_, _, r2, r3, r4⟩ := hcl k _ hx
            have HX := hid hx
            have HSt : Hid (∀ b, seqN seq n TL[k] = b → (b = false → (TL.take (k + 1)).find? (seqN seq n) = none) ∧ (b = true → TL.find? (seqN seq n) = some TL[k])) := fun b hb => ⟨fun e => find_step _ _ _ _ HN.out hx (by rw [hb, e]), fun e => find_now _ _ _ _ HN.out hx (by rw [hb, e])⟩
            clear hx hcl
            generalize TL[k] = X at *
            obtain ⟨xp, xe, xs, xn, xo⟩ := X
            simp only at *
            have HSq : Hid (seqN seq n (xp, ⟨xe, xs, xn, xo⟩) = (decide (xs = seq) && decide (xn = n))) := rfl
            by_cases e1 : xs = seq
            · by_cases e2 : xn = n
              · have HR2 : Hid (askL l pid ep seq n = (xo, 0)) := by show _ = _; rw [HF2.out, (HSt.out true (by rw [HSq.out]; simp [e1, e2])).2 rfl]
                subst e1
                subst e2
                go_wp2_with fail
                go_ret2
                exact ⟨by rw [HR2.out]; rfl, HB2.out⟩
              · have HN2 := hid ((HSt.out false (by rw [HSq.out]; simp [e2])).1 rfl)
                have e2' : (xn == n) = false := by simpa using e2
                subst e1
                go_wp2_with fail
                go_roundg (TL.length - (k + 1))
                case measure => omega
                case rel => exact ⟨k + 1, by omega, Nat.le_refl _, by go_num, rfl, HN2⟩
            · have HN2 := hid ((HSt.out false (by rw [HSq.out]; simp [e1])).1 rfl)
              have e1' : (xs == seq) = false := by simpa using e1
              go_wp2_with fail
              go_roundg (TL.length - (k + 1))
              case measure => omega
              case rel => exact ⟨k + 1, by omega, Nat.le_refl _, by go_num, rfl, HN2⟩
          · have hlt' : ¬ (k : Int) < (TL.length : Int) := by omega
            have e : TL.take k = TL := List.take_of_length_le (by omega)
            rw [e] at HN
            clear e
            have HF3 : Hid (askL l pid ep seq n = if seq = NX then (-1, 0) else if NX < seq then (-1, 11) else (-1, 12)) := by show _ = _; rw [HF2.out, HN.out]
            by_cases d1 : seq = NX
            · have HF4 : Hid (askL l pid ep seq n = (-1, 0)) := by show _ = _; rw [HF3.out, if_pos d1]
              subst d1
              go_wp2_with fail
              go_ret2
              exact ⟨by rw [HF4.out]; rfl, HB2.out⟩
            have d1' : (seq == NX) = false := by simpa using d1
            by_cases d2 : NX < seq
            · have HF4 : Hid (askL l pid ep seq n = (-1, 11)) := by show _ = _; rw [HF3.out, if_neg d1, if_pos d2]
              go_wp2_with fail
              go_ret2
              exact ⟨by rw [HF4.out]; rfl, HB2.out⟩
            · have HF4 : Hid (askL l pid ep seq n = (-1, 12)) := by show _ = _; rw [HF3.out, if_neg d1, if_neg d2]
              go_wp2_with fail
              go_ret2
              exact ⟨by rw [HF4.out]; rfl, HB2.out⟩
end Go.Proofs.Ytkdbclnnmpnfgaa

