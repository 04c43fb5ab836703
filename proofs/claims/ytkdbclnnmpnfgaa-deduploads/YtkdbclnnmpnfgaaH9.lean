/- Ask. -/
import Derived.Test.YtkdbclnnmpnfgaaH8
import Derived.Deep.LoopGhost
import Derived.Deep.Onto
import Derived.Lib.SliceRun
namespace Go.Proofs.Ytkdbclnnmpnfgaa
open Go.RowKit Go.Maps
set_option maxRecDepth 100000
set_option linter.unusedSimpArgs false
set_option linter.unusedVariables false

theorem TabM.none_or {w : World} {S q b fs} (h : TabM w S q b fs) (n : Int) : (fval fs n = .slice none 0 0 ∧ tget (abs fs) n = []) ∨ (NL w (fval fs n) (tget (abs fs) n) ∧ tget (abs fs) n ≠ []) := by
  have h1 := h.at_ n
  rw [abs_get] at h1 ⊢
  unfold fval at h1 ⊢
  cases hf : flook fs n with
  | none => exact .inl ⟨rfl, rfl⟩
  | some f =>
    rw [hf] at h1
    exact .inr ⟨h1.1, (h.ok.each (n, f.l) (by unfold abs; exact List.mem_map.2 ⟨(n, f), flook_mem hf, rfl⟩)).2.1⟩
theorem find_any {w : World} {S q b fs} (h : TabM w S q b fs) (pid ep seq n : Int) (hep : 0 ≤ ep ∧ ep ≤ 1000000000) (hseq : 0 ≤ seq ∧ seq ≤ 1000000000) :
    Calls Try.prog 35 #[fval fs pid, .agg #[.int .i64 ep, .int .i64 seq, .int .i64 n]] w fun e w' => e = .returned (.tuple #[.int .i64 (findL (tget (abs fs) pid) ep seq n).1, .int .i64 (findL (tget (abs fs) pid) ep seq n).2]) ∧ Below w.heap.size w w' := by
  rcases h.none_or pid with ⟨e1, e2⟩ | ⟨h1, h2⟩
  · rw [e1, e2]; exact find_nil w 0 ep seq n
  · have hg := h.ok.get pid
    have hf := h.ok.few
    generalize fval fs pid = v at *
    generalize tget (abs fs) pid = l at *
    obtain ⟨oa, cap, rfl, hcap, hcm, hnn, hoa⟩ := h1.shape
    have hpos : 0 < l.length := List.length_pos_iff.2 h2
    obtain ⟨g, rfl⟩ := hoa hpos
    exact find_some h1 hg.1 (by omega) hcap l[l.length - 1] (List.getElem?_eq_getElem (by omega)) ep seq n hep hseq

theorem inB_of {n : Int} (h : inB n = true) : 0 ≤ n ∧ n ≤ 1000000000 := by unfold inB at h; simpa using h
theorem ask_arg {l : List Nt} {pid ep seq n : Int} (h : argB pid ep seq n = false) : askL l pid ep seq n = (-1, 1) := by unfold askL; rw [if_pos h]

set_option maxHeartbeats 6400000 in
theorem ask_any {w : World} {S q T} (h : Tab w S q T) (pid ep seq n : Int) (hp : I64 pid) (he : I64 ep) (hs : I64 seq) (hn : I64 n) :
    Calls Try.prog 14 #[.pointer (some ⟨q, 0, none⟩), .int .i64 pid, .int .i64 ep, .int .i64 seq, .int .i64 n] w fun e w' =>
      e = .returned (.tuple #[.int .i64 (askL (tget T pid) pid ep seq n).1, .int .i64 (askL (tget T pid) pid ep seq n).2]) ∧ Below w.heap.size w w' := by
  obtain ⟨b, fs, h, rfl⟩ := h
  have HP := hid (fun w => isNumber_any pid w hp)
  have HE := hid (fun w => isNumber_any ep w he)
  have HS := hid (fun w => isNumber_any seq w hs)
  have HC := hid (fun w => isCount_any n w hn)
  have c0 := h.c0
  have hlk := h.look pid hp
  have HFd := hid (fun a b => find_any h pid ep seq n a b)
  have HA : Hid (∀ l : List Nt, argB pid ep seq n = false → askL l pid ep seq n = (-1, 1)) := fun l => ask_arg
  have HAr : Hid (argB pid ep seq n = (inB pid && inB ep && inB seq && (decide (1 ≤ n) && decide (n ≤ 64)) && !(decide (pid = 0) && (!decide (ep = 0) || !decide (seq = 0))))) := rfl
  have HAs : Hid (∀ l : List Nt, askL l pid ep seq n = if argB pid ep seq n = false then ((-1, 1) : Int × Int) else if pid = 0 then (-1, 0) else if 1000000 - (n - 1) < seq then (-1, 20) else findL l ep seq n) := fun l => rfl
  clear h
  unfold I64 at hp he hs hn
  generalize tget (abs fs) pid = l at *
  generalize fval fs pid = v at *
  cases b1 : inB pid with
  | false =>
    rw [b1] at HP HAr
    have HF := hid (HA.out l (by rw [HAr.out]; rfl))
    clear b1
    go_enter Try.func14, Try.ntmps14
    go_wp2_with (go_at_call 33; refine (HP.out _).mono ?_; rintro e w1 ⟨rfl, rfl⟩)
    go_ret2
    exact ⟨by rw [HF.out]; rfl, Below.refl _ _⟩
  | true =>
    have q1 := inB_of b1
    rw [b1] at HP HAr
    clear b1
    cases b2 : inB ep with
    | false =>
      rw [b2] at HE HAr
      have HF := hid (HA.out l (by rw [HAr.out]; rfl))
      clear b2
      go_enter Try.func14, Try.ntmps14
      go_wp2_with fail
      refine (HP.out _).mono ?_; rintro e w1 ⟨rfl, rfl⟩
      go_wp2_with fail
      refine (HE.out _).mono ?_; rintro e w1 ⟨rfl, rfl⟩
      go_wp2_with fail
      go_ret2
      exact ⟨by rw [HF.out]; rfl, Below.refl _ _⟩
    | true =>
      have q2 := inB_of b2
      rw [b2] at HE HAr
      clear b2
      cases b3 : inB seq with
      | false =>
        rw [b3] at HS HAr
        have HF := hid (HA.out l (by rw [HAr.out]; rfl))
        clear b3
        go_enter Try.func14, Try.ntmps14
        go_wp2_with fail
        refine (HP.out _).mono ?_; rintro e w1 ⟨rfl, rfl⟩
        go_wp2_with fail
        refine (HE.out _).mono ?_; rintro e w1 ⟨rfl, rfl⟩
        go_wp2_with fail
        refine (HS.out _).mono ?_; rintro e w1 ⟨rfl, rfl⟩
        go_wp2_with fail
        go_ret2
        exact ⟨by rw [HF.out]; rfl, Below.refl _ _⟩
      | true =>
        have q3 := inB_of b3
        rw [b3] at HS HAr
        clear b3
        cases b4 : (decide (1 ≤ n) && decide (n ≤ 64)) with
        | false =>
          rw [b4] at HC HAr
          have HF := hid (HA.out l (by rw [HAr.out]; rfl))
          clear b4
          go_enter Try.func14, Try.ntmps14
          go_wp2_with fail
          refine (HP.out _).mono ?_; rintro e w1 ⟨rfl, rfl⟩
          go_wp2_with fail
          refine (HE.out _).mono ?_; rintro e w1 ⟨rfl, rfl⟩
          go_wp2_with fail
          refine (HS.out _).mono ?_; rintro e w1 ⟨rfl, rfl⟩
          go_wp2_with fail
          refine (HC.out _).mono ?_; rintro e w1 ⟨rfl, rfl⟩
          go_wp2_with fail
          go_ret2
          exact ⟨by rw [HF.out]; rfl, Below.refl _ _⟩
        | true =>
          have q4 : 1 ≤ n ∧ n ≤ 64 := by simpa using b4
          rw [b4] at HC HAr
          clear b4
          by_cases hp0 : pid = 0
          · subst hp0
            by_cases he0 : ep = 0
            · subst he0
              by_cases hs0 : seq = 0
              · subst hs0
                have HF : Hid (askL l 0 0 0 n = (-1, 0)) := by show _ = _; rw [HAs.out, if_neg (by rw [HAr.out]; decide), if_pos rfl]
                go_enter Try.func14, Try.ntmps14
                go_wp2_with fail
                refine (HP.out _).mono ?_; rintro e w1 ⟨rfl, rfl⟩
                go_wp2_with fail
                refine (HE.out _).mono ?_; rintro e w1 ⟨rfl, rfl⟩
                go_wp2_with fail
                refine (HS.out _).mono ?_; rintro e w1 ⟨rfl, rfl⟩
                go_wp2_with fail
                refine (HC.out _).mono ?_; rintro e w1 ⟨rfl, rfl⟩
                go_wp2_with fail
                go_ret2
                exact ⟨by rw [HF.out]; rfl, Below.refl _ _⟩
              · have HF := hid (HA.out l (by rw [HAr.out]; simp [hs0]))
                go_enter Try.func14, Try.ntmps14
                go_wp2_with fail
                refine (HP.out _).mono ?_; rintro e w1 ⟨rfl, rfl⟩
                go_wp2_with fail
                refine (HE.out _).mono ?_; rintro e w1 ⟨rfl, rfl⟩
                go_wp2_with fail
                refine (HS.out _).mono ?_; rintro e w1 ⟨rfl, rfl⟩
                go_wp2_with fail
                refine (HC.out _).mono ?_; rintro e w1 ⟨rfl, rfl⟩
                go_wp2_with fail
                go_ret2
                exact ⟨by rw [HF.out]; rfl, Below.refl _ _⟩
            · have HF := hid (HA.out l (by rw [HAr.out]; simp [he0]))
              go_enter Try.func14, Try.ntmps14
              go_wp2_with fail
              refine (HP.out _).mono ?_; rintro e w1 ⟨rfl, rfl⟩
              go_wp2_with fail
              refine (HE.out _).mono ?_; rintro e w1 ⟨rfl, rfl⟩
              go_wp2_with fail
              refine (HS.out _).mono ?_; rintro e w1 ⟨rfl, rfl⟩
              go_wp2_with fail
              refine (HC.out _).mono ?_; rintro e w1 ⟨rfl, rfl⟩
              go_wp2_with fail
              go_ret2
              exact ⟨by rw [HF.out]; rfl, Below.refl _ _⟩
          · have HF0 : Hid (askL l pid ep seq n = if 1000000 - (n - 1) < seq then ((-1, 20) : Int × Int) else findL l ep seq n) := by
              show _ = _; rw [HAs.out, if_neg (by rw [HAr.out]; simp [hp0]), if_neg hp0]
            by_cases hov : 1000000 - (n - 1) < seq
            · have HF : Hid (askL l pid ep seq n = (-1, 20)) := by show _ = _; rw [HF0.out, if_pos hov]
              go_enter Try.func14, Try.ntmps14
              go_wp2_with fail
              refine (HP.out _).mono ?_; rintro e w1 ⟨rfl, rfl⟩
              go_wp2_with fail
              refine (HE.out _).mono ?_; rintro e w1 ⟨rfl, rfl⟩
              go_wp2_with fail
              refine (HS.out _).mono ?_; rintro e w1 ⟨rfl, rfl⟩
              go_wp2_with fail
              refine (HC.out _).mono ?_; rintro e w1 ⟨rfl, rfl⟩
              go_wp2_with fail
              go_ret2
              exact ⟨by rw [HF.out]; rfl, Below.refl _ _⟩
            · have HF : Hid (askL l pid ep seq n = findL l ep seq n) := by show _ = _; rw [HF0.out, if_neg hov]
              have HC35 := hid (HFd.out q2 q3)
              generalize findL l ep seq n = R at *
              obtain ⟨R1, R2⟩ := R
              go_enter Try.func14, Try.ntmps14
              go_wp2_with fail
              refine (HP.out _).mono ?_; rintro e w1 ⟨rfl, rfl⟩
              go_wp2_with fail
              refine (HE.out _).mono ?_; rintro e w1 ⟨rfl, rfl⟩
              go_wp2_with fail
              refine (HS.out _).mono ?_; rintro e w1 ⟨rfl, rfl⟩
              go_wp2_with fail
              refine (HC.out _).mono ?_; rintro e w1 ⟨rfl, rfl⟩
              go_wp2_with fail
              refine HC35.out.mono ?_; rintro e w2 ⟨rfl, hb2⟩
              go_wp2_with fail
              go_ret2
              exact ⟨by rw [HF.out]; rfl, hb2⟩
end Go.Proofs.Ytkdbclnnmpnfgaa

/- ahead, what Cut leaves of a producer's notes, Clone. -/
namespace Go.Proofs.Ytkdbclnnmpnfgaa
open Go.RowKit Go.Maps
set_option maxRecDepth 100000
set_option linter.unusedSimpArgs false
set_option linter.unusedVariables false

set_option maxHeartbeats 3200000 in
theorem search_63 {w : World} (n : Nat) (hn : n ≤ 100000) (p : Nat → Bool) (c1 c2 : Value) (HF : Hid (∀ t, t < n → ∀ W, Below w.heap.size w W → Calls Try.prog 63 #[.int .i64 (t : Int), c1, c2] W fun e w' => e = .returned (.bool (p t)) ∧ Below w.heap.size w w')) :
    Calls Try.prog 62 #[.int .i64 (n : Int), .func (.func 63) #[] #[c1, c2]] w fun e w' => ∃ r : Nat, r ≤ n ∧ e = .returned (.int .i64 (r : Int)) ∧ (r = 0 ∨ p (r - 1) = false) ∧ (r = n ∨ p r = true) ∧ Below w.heap.size w w' := by
  go_enter Try.func62, Try.ntmps62
  go_wp2_with fail
  go_loopg [5, 6] n (fun kx s5 s6 wr => ∃ (i j : Nat), i ≤ j ∧ j ≤ n ∧ j - i ≤ kx ∧ s5 = .int .i64 (i : Int) ∧ s6 = .int .i64 (j : Int) ∧ Hid ((i = 0 ∨ p (i - 1) = false) ∧ (j = n ∨ p j = true) ∧ Below w.heap.size w wr))
  case atStart => exact ⟨0, n, by omega, by omega, by omega, rfl, rfl, .inl rfl, .inl rfl, Below.refl _ _⟩
  case round =>
    obtain ⟨i, j, hij, hjn, hkx, rfl, rfl, HI⟩ := hrel
    by_cases hlt : i < j
    · have hlt' : (i : Int) < (j : Int) := by omega
      obtain ⟨t, ht⟩ : ∃ t : Nat, ((i : Int) + (j : Int)) / 2 = (t : Int) := ⟨(i + j) / 2, by omega⟩
      have ht1 : i ≤ t := by omega
      have ht2 : t < j := by omega
      have HC := hid (HF.out t (by omega) wr HI.out.2.2)
      have HT := hid ht
      clear ht
      go_wp2_with fail
      rw [HT.out]
      clear HT
      cases hp : p t with
      | true =>
        rw [hp] at HC
        refine HC.out.mono ?_
        rintro e w4 ⟨rfl, hb4⟩
        go_wp2_with fail
        go_roundg (t - i)
        case measure => omega
        case rel => exact ⟨i, t, ht1, by omega, Nat.le_refl _, rfl, rfl, HI.out.1, .inr hp, hb4⟩
      | false =>
        rw [hp] at HC
        refine HC.out.mono ?_
        rintro e w4 ⟨rfl, hb4⟩
        go_wp2_with fail
        go_roundg (j - (t + 1))
        case measure => omega
        case rel => exact ⟨t + 1, j, by omega, hjn, Nat.le_refl _, by go_num, rfl, .inr (by simpa using hp), HI.out.2.1, hb4⟩
    · have hlt' : ¬ (i : Int) < (j : Int) := by omega
      go_wp2_with fail
      go_ret
      have e : j = i := by omega
      subst e
      exact ⟨j, hjn, rfl, HI.out⟩

theorem kept_cell {W W' : World} (hb : Below W.heap.size W W') {p : Addr} {u : Value} (hu : W.cell? p = some u) : W'.cell? p = some u := (World.cell?_of_block (hb.block p.block (World.block_lt_of_cell? W _ hu))).trans hu

set_option maxHeartbeats 800000 in
theorem one63 {w : World} {v : Value} {l : List Nt} (h : NL w v l) (hlen : l.length ≤ 100000) (i : Nat) (x : Nt) (hx : l[i]? = some x) (gl go : Nat) (N : Int) (hgl : w.cell? ⟨gl, 0, none⟩ = some v) (hgo : w.cell? ⟨go, 0, none⟩ = some (.int .i64 N)) :
    Calls Try.prog 63 #[.int .i64 (i : Int), .pointer (some ⟨gl, 0, none⟩), .pointer (some ⟨go, 0, none⟩)] w fun e w' => e = .returned (.bool (decide (N ≤ x.off))) ∧ Below w.heap.size w w' := by
  obtain ⟨oa, cap, rfl, hcap, hcm, hnn, hoa⟩ := h.shape
  have hil := (List.getElem?_eq_some_iff.1 hx).1
  obtain ⟨g, rfl⟩ := hoa (by omega)
  obtain ⟨r0, r1, r2, r3⟩ := h.at_ _ _ hx
  have hi' : (i : Int) < (l.length : Int) := by omega
  clear h hoa hnn hx
  go_enter Try.func63, Try.ntmps63
  go_wp2_with fail
  go_quiet (fail)
  go_wp2_with fail
  go_ret
  exact ⟨rfl, by first | exact Below.refl _ _ | exact (Below.refl _ _).drew | exact below_drewN (Below.refl _ _) _⟩

set_option maxHeartbeats 1600000 in
theorem ahead_any {w : World} {v : Value} {l : List Nt} (h : NL w v l) (hlen : l.length ≤ 100000) (N : Int) :
    Calls Try.prog 39 #[v, .int .i64 N] w fun e w' => ∃ r : Nat, e = .returned (.int .i64 (r : Int)) ∧ HalfAt l N r ∧ Below w.heap.size w w' := by
  obtain ⟨q0, q1, hbW, hsW⟩ := world2 w (.cells #[v] 60) (.cells #[.int .i64 N] 3)
  have HQ0 := hid q0
  have HQ1 := hid q1
  have HBW := hid hbW
  have HN := hid (h.under hbW)
  obtain ⟨oa, cap, rfl, hcap, hcm, hnn, hoa⟩ := h.shape
  clear q0 q1 hbW hsW h hoa hnn
  have p0 := cell_blk HQ0.out 0 _ rfl
  have p1 := cell_blk HQ1.out 0 _ rfl
  go_enter Try.func39, Try.ntmps39
  go_wp2_with fail
  generalize (w.alloc (.cells #[.slice oa l.length cap] 60)).alloc (.cells #[.int .i64 N] 3) = W at *
  refine (search_63 l.length hlen (fun t => match l[t]? with | some x => decide (N ≤ x.off) | none => true) _ _ ?_).mono ?_
  · intro t ht W2 hb2
    have hx : l[t]? = some l[t] := List.getElem?_eq_getElem ht
    rw [hx]
    exact (one63 (HN.out.under hb2) hlen t l[t] hx _ _ N (kept_cell hb2 p0) (kept_cell hb2 p1)).mono fun e w' ⟨e1, e2⟩ => ⟨e1, hb2.trans (e2.mono hb2.size)⟩
  · rintro e w' ⟨r, r1, rfl, r3, r4, r5⟩
    have HR : Hid (HalfAt l N r) := by
      refine ⟨r1, ?_, ?_⟩
      · rcases r3 with r3 | r3
        · exact .inl r3
        · refine .inr (fun x hx => ?_)
          rw [hx] at r3
          simp at r3
          omega
      · rcases r4 with r4 | r4
        · exact .inl r4
        · refine .inr (fun x hx => ?_)
          rw [hx] at r4
          simpa using r4
    clear r3 r4
    go_wp2_with fail
    go_ret
    exact ⟨r, rfl, HR.out, HBW.out.trans (r5.mono HBW.out.size)⟩

/-- What a call that shortens notes leaves. -/
def Shorter (w w' : World) (v : Value) (l : List Nt) (e : Ending) : Prop := ∃ v', e = .returned v' ∧ NL w' v' l ∧ (∀ k, v'.ownBlock = some k → v.ownBlock = some k ∨ w.heap.size ≤ k) ∧ (∃ oa c, v' = .slice oa l.length c) ∧ Below w.heap.size w w'

set_option maxHeartbeats 1600000 in
theorem cut38 {w : World} {v : Value} {l : List Nt} (h : NL w v l) (hl : LOk l) (hne : l ≠ []) (hlen : l.length ≤ 100000) (gb : Nat) (N : Int) (hg : w.cell? ⟨gb, 0, none⟩ = some (.int .i64 N)) :
    Calls Try.prog 38 #[v, .pointer (some ⟨gb, 0, none⟩)] w fun e w' => Shorter w w' v (cutN N l) e := by
  have H39 := hid (ahead_any h hlen N)
  have HN := hid h
  have HL := hid hl
  obtain ⟨oa, cap, rfl, hcap, hcm, hnn, hoa⟩ := h.shape
  obtain ⟨g, rfl⟩ := hoa (List.length_pos_iff.2 hne)
  clear h hl hoa hnn hne
  go_enter Try.func38, Try.ntmps38
  go_wp2_with fail
  refine H39.out.mono ?_
  rintro e w1 ⟨r, rfl, hr, hb1⟩
  have hrl := hr.le
  have hr1 : (r : Int) ≤ (cap : Int) := by omega
  have HR := hid hr
  clear hr
  go_wp2_with fail
  go_ret
  have e1 := HR.out.cut HL.out
  have e2 : (l.take r).length = r := by rw [List.length_take]; omega
  refine ⟨.slice (some ⟨g, 0, none⟩) r cap, rfl, ?_, fun k hk => .inl ?_, ⟨some ⟨g, 0, none⟩, cap, ?_⟩, hb1⟩
  · rw [e1]; exact (HN.out.under hb1).take r hrl
  · simpa [Value.ownBlock] using hk
  · rw [e1, e2]
theorem NL.cellsFrom {w : World} {g n cap : Nat} {l : List Nt} (h : NL w (.slice (some ⟨g, 0, none⟩) n cap) l) (k : Nat) : ∀ j u, (flatN (l.drop k))[j]? = some u → w.cell? ((⟨g, k * 4, none⟩ : Addr).add j) = some u := by
  intro j u hu
  rw [flatN_drop, List.getElem?_drop] at hu
  have := World.ownsRow.cells h (g := g) rfl _ _ hu
  have e : (⟨g, k * 4, none⟩ : Addr).add j = (⟨g, 0, none⟩ : Addr).add (k * 4 + j) := by
    unfold Addr.add; split <;> simp_all
  rw [e]
  exact this
set_option maxHeartbeats 1600000 in
theorem clone_any {w : World} {g cap n : Nat} {l : List Nt} (h : NL w (.slice (some ⟨g, 0, none⟩) n cap) l) (hlen : l.length ≤ 100000) (k c : Nat) (hk : k ≤ l.length) :
    Calls Try.prog 64 #[.slice (some ⟨g, k * 4, none⟩) (l.length - k) c] w fun e w' => ∃ v', e = .returned v' ∧ NL w' v' (l.drop k) ∧ (∀ k, v'.ownBlock = some k → w.heap.size ≤ k) ∧ Below w.heap.size w w' := by
  obtain ⟨i0, hi0, hz0, hz1, hz2⟩ := info64
  have HNIL := hid (fun W : World => Lib.run_eql_slice_nil (P := Try.prog) W 60 64 (some ⟨g, k * 4, none⟩) (l.length - k) c 0 0 Try.underlying60)
  have hnil := fun W : World => HNIL.out W
  have HROW : Hid ((w.alloc (.cells #[] 64)).ownsRow w.heap.size 64 4 (.slice (some ⟨w.heap.size, 0, none⟩) 0 0) 0 []) := ⟨rfl, .inr ⟨w.heap.size, 0, #[], rfl, Nat.le_refl _, heap_alloc_new _ _, Nat.le_refl _, Nat.zero_le _, rfl, rfl⟩⟩
  have hb0 : Below w.heap.size w (w.alloc (.cells #[] 64)) := (Below.refl _ _).alloc (Nat.le_refl _) _
  have HNW := hid ((h.under hb0).cellsFrom k)
  have HON := hid (flatN_one (l.drop k))
  have HLn : Hid ((flatN (l.drop k)).length = (l.length - k) * 4) := by show _ = _; rw [flatN_length, List.length_drop]
  have HLd : Hid ((l.drop k).length = l.length - k) := by show _ = _; rw [List.length_drop]
  have HB0 := hid hb0
  clear h hb0 HNIL
  generalize hF : flatN (l.drop k) = F at *
  have HF := hid hF
  clear hF
  go_enter Try.func64, Try.ntmps64
  go_wp2_with (at_builtin; refine wpList_append_own_at _ rfl _ _ 60 rfl w.heap.size 64 i0 _ 4 32 Try.underlying60 hi0 hz0 hz1 hz2 rfl (by decide) _ 0 [] rfl HROW.out ⟨g, k * 4, none⟩ (l.length - k) c F rfl HLn.out HNW.out HON.out (by unfold maxLen; omega) (by omega) (by simp) ?_; intro v' w2 hown2 hg2 _ hat)
  go_ret
  refine ⟨v', rfl, ?_, fun k hk => ?_, HB0.out.grown hg2 HB0.out.size (fun j hj => by cases hj; exact Nat.le_refl _)⟩
  · rw [Nat.zero_add, List.nil_append] at hown2
    unfold NL
    rw [HF.out, HLd.out]
    exact World.ownsRow.mono hown2 (Nat.zero_le _)
  · exact (World.ownsRow.lt hown2 k hk).1
end Go.Proofs.Ytkdbclnnmpnfgaa

