/- The document's top. -/
import Derived.Test.YtkdbclnnmpnfgaaHR4
import Derived.Deep.QuietTactic
import Derived.BigQuiet
namespace Go.Proofs.Ytkdbclnnmpnfgaa
open Go.RowKit Go.Maps
set_option maxRecDepth 100000
set_option linter.unusedSimpArgs false
set_option linter.unusedVariables false

def tE (l : List Mk) : Int := lastEp (l.map (·.2))
def fE (E : Int) (l : List Mk) : List Mk := l.filter fun m => decide (m.2.ep = E)
def nE (E : Int) (l : List Mk) : Int := match (fE E l)[(fE E l).length - 1]? with | some m => m.2.seq + m.2.n | none => 0
def topL (l : List Mk) : List Mk := (fE (tE l) l).drop ((fE (tE l) l).length - 5)
theorem tE_take (l : List Mk) (k : Nat) (h : k < l.length) : tE (l.take (k + 1)) = l[k].2.ep := by
  unfold tE lastEp
  rw [List.take_succ_eq_append_getElem h, List.map_append]
  simp
theorem tE_le {l : List Mk} (hL : LOk (l.map (·.2))) (k : Nat) (h : k < l.length) : tE (l.take k) ≤ l[k].2.ep ∧ -1 ≤ tE (l.take k) ∧ tE (l.take k) ≤ 1000000000 := by
  unfold tE
  have hx : (l.map (·.2))[k]? = some l[k].2 := by simp [h]
  have hxo := (hL.all _ (List.mem_of_getElem? hx)).ep
  cases k with
  | zero => simp [lastEp]; omega
  | succ k' =>
    have hy : (l.map (·.2))[k']? = some (l[k']'(by omega)).2 := by rw [List.getElem?_map, List.getElem?_eq_getElem (show k' < l.length by omega)]; rfl
    have hyo := (hL.all _ (List.mem_of_getElem? hy)).ep
    have e : lastEp ((l.take (k' + 1)).map (·.2)) = (l[k']'(by omega)).2.ep := tE_take l k' (by omega)
    rw [e]
    have := (hL.at_lt hy hx (by omega)).2.1
    omega
theorem fE_take (E : Int) (l : List Mk) (k : Nat) (h : k < l.length) : fE E (l.take (k + 1)) = if l[k].2.ep = E then fE E (l.take k) ++ [l[k]] else fE E (l.take k) := by
  unfold fE
  rw [List.take_succ_eq_append_getElem h, List.filter_append]
  by_cases e : l[k].2.ep = E
  · rw [if_pos e]; simp [List.filter_cons, e]
  · rw [if_neg e]; simp [List.filter_cons, e]
theorem nE_take (E : Int) (l : List Mk) (k : Nat) (h : k < l.length) : nE E (l.take (k + 1)) = if l[k].2.ep = E then l[k].2.seq + l[k].2.n else nE E (l.take k) := by
  unfold nE
  rw [fE_take E l k h]
  by_cases e : l[k].2.ep = E
  · rw [if_pos e, if_pos e]; simp
  · rw [if_neg e, if_neg e]
/-- Marks, from some place of a row on. -/
def MS (w : World) (a : Option Addr) (l : List Mk) : Prop := l = [] ∨ ∃ g off, a = some ⟨g, off, none⟩ ∧ g < w.heap.size ∧ ∀ (i : Nat) m, l[i]? = some m → w.cell? ⟨g, off + i * 5, none⟩ = some (.int .i64 m.1) ∧ w.cell? ⟨g, off + i * 5 + 1, none⟩ = some (.int .i64 m.2.ep) ∧ w.cell? ⟨g, off + i * 5 + 2, none⟩ = some (.int .i64 m.2.seq) ∧ w.cell? ⟨g, off + i * 5 + 3, none⟩ = some (.int .i64 m.2.n) ∧ w.cell? ⟨g, off + i * 5 + 4, none⟩ = some (.int .i64 m.2.off)
theorem ML.ms {w : World} {B : Nat} {a : Option Addr} {n c : Nat} {l : List Mk} (h : ML w B (.slice a n c) l) (k : Nat) (hk : k ≤ l.length) : (a = none → MS w a (l.drop k)) ∧ ∀ g, a = some ⟨g, 0, none⟩ → MS w (some ⟨g, k * 5, none⟩) (l.drop k) := by
  constructor
  · intro e
    subst e
    obtain ⟨_, ⟨_, h0⟩ | ⟨g, cap, cur, e, _⟩⟩ := h
    · exact .inl (by rw [List.eq_nil_of_length_eq_zero h0]; simp)
    · cases e
  · intro g e
    subst e
    refine .inr ⟨g, k * 5, rfl, (h.lt g rfl).2, fun i m hm => ?_⟩
    rw [List.getElem?_drop] at hm
    have := h.at_ (k + i) m hm
    have e1 : (k + i) * 5 = k * 5 + i * 5 := by omega
    rw [e1] at this
    exact this
theorem MS.under {w w1 : World} {a : Option Addr} {l : List Mk} (h : MS w a l) (hb : Below w.heap.size w w1) : MS w1 a l := by
  rcases h with h | ⟨g, off, e, hl, hc⟩
  · exact .inl h
  · refine .inr ⟨g, off, e, Nat.lt_of_lt_of_le hl hb.size, fun i m hm => ?_⟩
    obtain ⟨c0, c1, c2, c3, c4⟩ := hc i m hm
    exact ⟨kept_cell hb c0, kept_cell hb c1, kept_cell hb c2, kept_cell hb c3, kept_cell hb c4⟩

/-- What top answers. -/
def TopPost (w w' : World) (l : List Mk) (e : Ending) : Prop := ∃ a c, e = .returned (.tuple #[.int .i64 (tE l), .slice a (topL l).length c, .int .i64 (nE (tE l) l)]) ∧ MS w' a (topL l) ∧ Below w.heap.size w w'
set_option maxHeartbeats 6400000 in
theorem top_any {w : World} {B : Nat} {v : Value} {l : List Mk} (h : ML w B v l) (hL : LOk (l.map (·.2))) (hlen : l.length ≤ 100000) :
    Calls Try.prog 32 #[v] w fun e w' => TopPost w w' l e := by
  have HM := hid h
  have HL := hid hL
  obtain ⟨oa, cap, rfl, hcap, hcm, hnn, hoa⟩ := h.shape
  obtain ⟨j0, hj0, hz0, hz1, hz2⟩ := info70
  have HTL : Hid (topL l = (fE (tE l) l).drop ((fE (tE l) l).length - 5)) := rfl
  clear h hL
  go_enter Try.func32, Try.ntmps32
  go_wp2_with fail
  go_loopg [5, 6] l.length (fun kx s5 s6 wr => ∃ (k : Nat), k ≤ l.length ∧ l.length - k ≤ kx ∧ s6 = .int .i64 (k : Int) ∧ s5 = .int .i64 (tE (l.take k)) ∧ wr = w)
  case atStart => exact ⟨0, by omega, by omega, rfl, rfl, rfl⟩
  case round =>
    obtain ⟨k, hkl, hkx, rfl, rfl, hwr⟩ := hrel
    have hwr' := hwr.symm
    subst hwr'
    clear hwr
    by_cases hlt : k < l.length
    · have hlt' : (k : Int) < (l.length : Int) := by omega
      obtain ⟨g, rfl⟩ := hoa (by omega)
      have hx : l[k]? = some l[k] := List.getElem?_eq_getElem hlt
      obtain ⟨_, r1, _, _, _⟩ := HM.out.at_ k _ hx
      have HT := hid (tE_take l k hlt)
      obtain ⟨t1, t2, t3⟩ := tE_le HL.out k hlt
      clear hx
      generalize l[k] = X at *
      generalize X.2.ep = xe at *
      generalize tE (l.take k) = TE at *
      have hmx : max TE xe = xe := Int.max_eq_right t1
      go_wp2_with fail
      go_roundg (l.length - (k + 1))
      case measure => omega
      case rel => exact ⟨k + 1, by omega, Nat.le_refl _, by go_num, by rw [HT.out], rfl⟩
    · have hlt' : ¬ (k : Int) < (l.length : Int) := by omega
      have e : l.take k = l := List.take_of_length_le (by omega)
      rw [e]
      clear e
      generalize hTE : tE l = E at *
      have HTE := hid hTE
      clear hTE
      go_wp2_with fail
      go_loopg [7, 8, 9] l.length (fun jx s7 s8 s9 wr2 => ∃ (j : Nat) (sv : Value), j ≤ l.length ∧ l.length - j ≤ jx ∧ s9 = .int .i64 (j : Int) ∧ s8 = .int .i64 (nE E (l.take j)) ∧ sv = s7 ∧ Hid (ML wr2 w.heap.size sv (fE E (l.take j)) ∧ Below w.heap.size w wr2))
      case atStart => exact ⟨0, _, by omega, by omega, rfl, rfl, rfl, ML.nil _ _, Below.refl _ _⟩
      case round =>
        obtain ⟨j, sv, hjl, hjx, rfl, rfl, rfl, HJ⟩ := hrel
        have hws := HJ.out.2.size
        by_cases hlt : j < l.length
        · have hlt' : (j : Int) < (l.length : Int) := by omega
          obtain ⟨g, rfl⟩ := hoa (by omega)
          have hx : l[j]? = some l[j] := List.getElem?_eq_getElem hlt
          obtain ⟨r0, r1, r2, r3, r4⟩ := (HM.out.under HJ.out.2).at_ j _ hx
          have hxo := HL.out.all l[j].2 (List.mem_map.2 ⟨l[j], List.getElem_mem hlt, rfl⟩)
          have HX := hid hx
          have HF := hid (fE_take E l j hlt)
          have HN := hid (nE_take E l j hlt)
          have hgw := (HM.out.lt g rfl).2
          clear hx
          generalize l[j] = X at *
          obtain ⟨xp, xe, xs, xn, xo⟩ := X
          have e1 := hxo.ep; have e2 := hxo.n; have e3 := hxo.seq; have e4 := hxo.off
          simp only at *
          by_cases hp : xe = E
          · have HF2 : Hid (fE E (l.take (j + 1)) = fE E (l.take j) ++ [(xp, ⟨xe, xs, xn, xo⟩)]) := by show _ = _; rw [HF.out, if_pos hp]
            have HN2 : Hid (nE E (l.take (j + 1)) = xs + xn) := by show _ = _; rw [HN.out, if_pos hp]
            subst hp
            obtain ⟨hrow, hnw, hpu⟩ := push_mark HJ.out.1 HJ.out.2 (xp, ⟨xe, xs, xn, xo⟩) rfl
            have HROW := hid hrow
            have HNW := hid hnw
            have HPU := hid hpu
            have HON := hid (mcells_one (xp, ⟨xe, xs, xn, xo⟩))
            have HNC : Hid ((mcells (xp, ⟨xe, xs, xn, xo⟩)).length = 1 * 5) := rfl
            have hol : (fE xe (l.take j)).length ≤ 100000 := by
              have h1 : (fE xe (l.take j)).length ≤ (l.take j).length := List.length_filter_le _ _
              rw [List.length_take] at h1; omega
            obtain ⟨sa, sc, hsv, _⟩ := HJ.out.1.shape
            have HKp : Hid (∀ W', Below w.heap.size w W' → W'.cell? ⟨g, j * 5 + 2, none⟩ = some (.int .i64 xs) ∧ W'.cell? ⟨g, j * 5 + 3, none⟩ = some (.int .i64 xn)) := fun W' hb => by
              obtain ⟨_, _, a2, a3, _⟩ := (HM.out.under hb).at_ j _ HX.out
              exact ⟨a2, a3⟩
            clear hrow hnw hpu
            simp only at HROW HNW HPU
            generalize flatM (fE xe (l.take j)) = FL at *
            generalize mcells (xp, ⟨xe, xs, xn, xo⟩) = NC at *
            generalize (fE xe (l.take j)).length = OL at *
            subst hsv
            go_wp2_with (at_builtin; refine wpList_append_own_at _ rfl _ _ 56 rfl w.heap.size 70 j0 _ 5 40 Try.underlying56 hj0 hz0 hz1 hz2 rfl (by decide) _ OL FL rfl HROW.out ⟨_, 0, none⟩ 1 1 NC rfl HNC.out HNW.out HON.out (by unfold maxLen; omega) (by omega) (by simp; omega) ?_; intro v' w9 hown9 hg9 _ hat9; have HG := hid (HPU.out v' w9 hown9 hg9); clear hown9 hg9 hat9)
            obtain ⟨z2, z3⟩ := HKp.out _ HG.out.2
            go_quiet (fail)
            go_wp2_with fail
            go_roundg (l.length - (j + 1))
            case measure => omega
            case rel => exact ⟨j + 1, v', by omega, Nat.le_refl _, by go_num, by rw [HN2.out], rfl, by rw [HF2.out]; exact ⟨HG.out.1.kept (fun k hk => rfl), below_drewN HG.out.2 _⟩⟩
          · have HF2 : Hid (fE E (l.take (j + 1)) = fE E (l.take j)) := by show _ = _; rw [HF.out, if_neg hp]
            have HN2 : Hid (nE E (l.take (j + 1)) = nE E (l.take j)) := by show _ = _; rw [HN.out, if_neg hp]
            have hp' : (xe == E) = false := by simpa using hp
            go_wp2_with fail
            go_roundg (l.length - (j + 1))
            case measure => omega
            case rel => exact ⟨j + 1, sv, by omega, Nat.le_refl _, by go_num, by rw [HN2.out], rfl, by rw [HF2.out]; exact HJ.out⟩
        · have hlt' : ¬ (j : Int) < (l.length : Int) := by omega
          have e : l.take j = l := List.take_of_length_le (by omega)
          rw [e] at HJ ⊢
          clear e
          obtain ⟨sa, sc, hsv, hsl, hsm, hsn, hso⟩ := HJ.out.1.shape
          obtain ⟨NV, hNV⟩ : ∃ NV, nE E l = NV := ⟨_, rfl⟩
          have HNE := hid hNV
          rw [hNV]
          clear hNV
          have hfl : (fE E l).length ≤ 100000 := Nat.le_trans (List.length_filter_le _ _) hlen
          subst hsv
          by_cases h5 : 5 < (fE E l).length
          · have h5' : (5 : Int) < ((fE E l).length : Int) := by omega
            obtain ⟨g2, rfl⟩ := hso (by omega)
            have HMS := hid ((HJ.out.1.ms ((fE E l).length - 5) (by omega)).2 g2 rfl)
            obtain ⟨d, hd⟩ : ∃ d : Nat, (fE E l).length = d + 5 := ⟨(fE E l).length - 5, by omega⟩
            have HDl : Hid ((topL l).length = 5) := by show _ = _; rw [HTL.out, List.length_drop, hd]; omega
            have HMS2 : Hid (MS wr (some ⟨g2, d * 5, none⟩) (topL l)) := by
              show MS _ _ _
              rw [HTL.out]
              have e3 := HMS.out
              have e2 : (fE E l).length - 5 = d := by omega
              rw [e2] at e3
              rw [e2]
              exact e3
            clear HMS
            generalize hFL : (fE E l).length = FL at *
            clear hFL
            subst hd
            have ha : ((d : Int) + 5 - 5) = (d : Int) := by omega
            have hb : IntKind.i64.wrap ((d : Int) + 5 - 5) = (d : Int) := by rw [IntWalk.i64_in _ (by omega)]; omega
            have hc : IntKind.i64.wrap (d : Int) = (d : Int) := IntWalk.i64_in _ (by omega)
            have hd5 : d < sc := by omega
            go_wp2_with fail
            all_goals first
              | (exfalso; omega)
              | skip
            go_ret3
            refine ⟨some ⟨g2, d * 5, none⟩, sc - d, ?_, HMS2.out, HJ.out.2⟩
            rw [HTE.out, HDl.out, HNE.out]
            rfl
          · have h5' : ¬ (5 : Int) < ((fE E l).length : Int) := by omega
            have HD : Hid (topL l = fE E l) := by show _ = _; rw [HTL.out, show (fE E l).length - 5 = 0 by omega, List.drop_zero]
            have HMS : Hid (MS wr sa (fE E l)) := by
              show MS _ _ _
              cases sa with
              | none => have := (HJ.out.1.ms 0 (by omega)).1 rfl; simpa using this
              | some a0 =>
                by_cases h0 : 0 < (fE E l).length
                · obtain ⟨g2, e2⟩ := hso h0
                  have := (HJ.out.1.ms 0 (by omega)).2 g2 e2
                  rw [e2]
                  simpa using this
                · exact .inl (List.eq_nil_of_length_eq_zero (by omega))
            go_wp2_with fail
            go_ret3
            refine ⟨sa, sc, ?_, by rw [HD.out]; exact HMS.out, HJ.out.2⟩
            rw [HTE.out, HD.out, HNE.out]
            rfl
end Go.Proofs.Ytkdbclnnmpnfgaa

