/- The document's New, within, Cut. -/
import Derived.Test.YtkdbclnnmpnfgaaHR2
namespace Go.Proofs.Ytkdbclnnmpnfgaa
open Go.RowKit Go.Maps
set_option maxRecDepth 100000
set_option linter.unusedSimpArgs false
set_option linter.unusedVariables false

/-- What a call of the document's leaves of its table: its block and what is new. -/
def RA (w w' : World) (r : Nat) (ms : List Mk) : Prop := ∃ v', RT w' r v' ms ∧ (∀ k, v'.ownBlock = some k → w.heap.size ≤ k) ∧ Keeps (fun k => k = r) w w'
theorem RT.set {w wr : World} {r : Nat} {v v' : Value} {ms ms' : List Mk} (h : RT w r v ms) (hb : Below w.heap.size w wr) (hm : ML wr w.heap.size v' ms') (hf : ms'.length ≤ 100000) : RA w (wr.setCell ⟨r, 0, none⟩ v') r ms' := by
  have hrl := h.lt
  have hc := (h.under hb).cells
  have hs : (wr.setCell ⟨r, 0, none⟩ v').heap.size = wr.heap.size := by simp [World.setCell]
  refine ⟨v', ⟨set_box (j := 0) (u := v') hc, ?_, hf⟩, fun k hk => (hm.lt k hk).1, ⟨hb.os, hb.tape, hb.output, by rw [hs]; exact hb.size, fun k hk hne => (Below.heap_setCell wr ⟨r, 0, none⟩ v' k hne).trans (hb.block k hk)⟩⟩
  have : ML wr 0 v' ms' := World.ownsRow.mono hm (Nat.zero_le _)
  exact this.kept (fun k hk => Below.heap_setCell wr ⟨r, 0, none⟩ v' k (fun e => by have := (hm.lt k hk).1; simp only at e; omega))

set_option maxHeartbeats 400000 in
theorem rnew_any (w : World) : Calls Try.prog 9 #[] w fun e w' => e = .returned (.pointer (some ⟨w.heap.size, 0, none⟩)) ∧ RT w' w.heap.size (.slice none 0 0) [] ∧ Below w.heap.size w w' := by
  have HT : Hid (RT (w.alloc (.cells #[.slice none 0 0] 58)) w.heap.size (.slice none 0 0) []) := ⟨heap_alloc_new _ _, ML.nil _ _, by simp⟩
  go_enter Try.func9, Try.ntmps9
  go_wp2_with fail
  go_ret
  exact ⟨rfl, HT.out, (Below.refl _ _).alloc (Nat.le_refl _) _⟩
set_option maxHeartbeats 400000 in
theorem within_any (n m : Int) (w : World) (hn : I64 n) : Calls Try.prog 36 #[.int .i64 n, .int .i64 m] w fun e w' => e = .returned (.bool (decide (0 ≤ n) && decide (n ≤ m))) ∧ w = w' := by
  go_enter Try.func36, Try.ntmps36
  go_wp2
  all_goals
    go_ret
    refine ⟨ret_bool ?_, rfl⟩
    rw [Bool.eq_iff_iff]
    simp
    try omega

/-- A mark behind a row that is being made. -/
theorem push_mark {w wr : World} {sv : Value} {L : List Mk} (h : ML wr w.heap.size sv L) (hb : Below w.heap.size w wr) (x : Mk) {O : Obj} (hO : O = .cells #[.int .i64 x.1, .int .i64 x.2.ep, .int .i64 x.2.seq, .int .i64 x.2.n, .int .i64 x.2.off] 70) :
    (wr.alloc O).ownsRow w.heap.size 70 5 sv L.length (flatM L) ∧ (∀ j u, (mcells x)[j]? = some u → (wr.alloc O).cell? ((⟨wr.heap.size, 0, none⟩ : Addr).add j) = some u) ∧
    (∀ (v' : Value) (w9 : World), w9.ownsRow w.heap.size 70 5 v' (L.length + 1) (flatM L ++ mcells x) → (wr.alloc O).grownBy w9 sv.ownBlock → ML w9 w.heap.size v' (L ++ [x]) ∧ Below w.heap.size w w9) := by
  subst hO
  have hbA : Below wr.heap.size wr (wr.alloc (.cells #[.int .i64 x.1, .int .i64 x.2.ep, .int .i64 x.2.seq, .int .i64 x.2.n, .int .i64 x.2.off] 70)) := (Below.refl _ _).alloc (Nat.le_refl _) _
  refine ⟨h.under hbA, fun j u hu => ?_, fun v' w9 h1 h2 => ⟨ML.push (w := w) h1, ?_⟩⟩
  · rw [add_lit0]
    refine cell_blk (heap_alloc_new wr _) j u ?_
    rw [← hu]
    simp [mcells]
  · have hb2 := hb.trans (hbA.mono hb.size)
    exact hb2.grown h2 hb2.size (fun j hj => (h.lt j hj).1)

def cutM (N : Int) (ms : List Mk) : List Mk := ms.filter fun m => decide (m.2.off < N)
theorem cutM_take (N : Int) (ms : List Mk) (k : Nat) (h : k < ms.length) : cutM N (ms.take (k + 1)) = if ms[k].2.off < N then cutM N (ms.take k) ++ [ms[k]] else cutM N (ms.take k) := by
  unfold cutM
  rw [List.take_succ_eq_append_getElem h, List.filter_append]
  by_cases e : ms[k].2.off < N
  · rw [if_pos e]; simp [List.filter_cons, e]
  · rw [if_neg e]; simp [List.filter_cons, e]
set_option maxHeartbeats 3200000 in
theorem rcut_any {w : World} {r : Nat} {v : Value} {ms : List Mk} (h : RT w r v ms) (N : Int) :
    Calls Try.prog 17 #[.pointer (some ⟨r, 0, none⟩), .int .i64 N] w fun e w' => e = .returned (.tuple #[]) ∧ RA w w' r (cutM N ms) := by
  have HR := hid h
  have hfew := h.few
  have c0 := h.c0
  have hrl := h.lt
  obtain ⟨oa, cap, rfl, hcap, hcm, hnn, hoa⟩ := h.row.shape
  obtain ⟨j0, hj0, hz0, hz1, hz2⟩ := info70
  clear h
  go_enter Try.func17, Try.ntmps17
  go_wp2_with fail
  go_loopg [4, 5] ms.length (fun kx s4 s5 wr => ∃ (k : Nat) (sv : Value), k ≤ ms.length ∧ ms.length - k ≤ kx ∧ s5 = .int .i64 (k : Int) ∧ sv = s4 ∧ Hid (ML wr w.heap.size sv (cutM N (ms.take k)) ∧ Below w.heap.size w wr))
  case atStart => exact ⟨0, _, by omega, by omega, rfl, rfl, ML.nil _ _, Below.refl _ _⟩
  case round =>
    obtain ⟨k, sv, hkl, hkx, rfl, rfl, HI⟩ := hrel
    have cq : wr.cell? ⟨r, 0, none⟩ = some (.slice oa ms.length cap) := kept_cell HI.out.2 c0
    have hws := HI.out.2.size
    by_cases hlt : k < ms.length
    · have hlt' : (k : Int) < (ms.length : Int) := by omega
      obtain ⟨g, rfl⟩ := hoa (by omega)
      have hx : ms[k]? = some ms[k] := List.getElem?_eq_getElem hlt
      obtain ⟨r0, r1, r2, r3, r4⟩ := (HR.out.row.under HI.out.2).at_ k _ hx
      have HT := hid (cutM_take N ms k hlt)
      have hgw := (HR.out.row.lt g rfl).2
      clear hx
      generalize ms[k] = X at *
      obtain ⟨xp, xe, xs, xn, xo⟩ := X
      simp only at *
      by_cases hp : xo < N
      · have HT2 : Hid (cutM N (ms.take (k + 1)) = cutM N (ms.take k) ++ [(xp, ⟨xe, xs, xn, xo⟩)]) := by show _ = _; rw [HT.out, if_pos hp]
        obtain ⟨hrow, hnw, hpu⟩ := push_mark HI.out.1 HI.out.2 (xp, ⟨xe, xs, xn, xo⟩) rfl
        have HROW := hid hrow
        have HNW := hid hnw
        have HPU := hid hpu
        have HON := hid (mcells_one (xp, ⟨xe, xs, xn, xo⟩))
        have HNC : Hid ((mcells (xp, ⟨xe, xs, xn, xo⟩)).length = 1 * 5) := rfl
        have hol : (cutM N (ms.take k)).length ≤ 100000 := by
          have h1 : (cutM N (ms.take k)).length ≤ (ms.take k).length := List.length_filter_le _ _
          rw [List.length_take] at h1; omega
        obtain ⟨sa, sc, hsv, _⟩ := HI.out.1.shape
        clear hrow hnw hpu
        simp only at HROW HNW HPU
        generalize flatM (cutM N (ms.take k)) = FL at *
        generalize mcells (xp, ⟨xe, xs, xn, xo⟩) = NC at *
        generalize (cutM N (ms.take k)).length = OL at *
        subst hsv
        go_wp2_with (at_builtin; refine wpList_append_own_at _ rfl _ _ 56 rfl w.heap.size 70 j0 _ 5 40 Try.underlying56 hj0 hz0 hz1 hz2 rfl (by decide) _ OL FL rfl HROW.out ⟨wr.heap.size, 0, none⟩ 1 1 NC rfl HNC.out HNW.out HON.out (by unfold maxLen; omega) (by omega) (by simp; omega) ?_; intro v' w9 hown9 hg9 _ hat9; have HG := hid (HPU.out v' w9 hown9 hg9); clear hown9 hg9 hat9)
        go_roundg (ms.length - (k + 1))
        case measure => omega
        case rel => exact ⟨k + 1, v', by omega, Nat.le_refl _, by go_num, rfl, by rw [HT2.out]; exact HG.out⟩
      · have HT2 : Hid (cutM N (ms.take (k + 1)) = cutM N (ms.take k)) := by show _ = _; rw [HT.out, if_neg hp]
        go_wp2_with fail
        go_roundg (ms.length - (k + 1))
        case measure => omega
        case rel => exact ⟨k + 1, sv, by omega, Nat.le_refl _, by go_num, rfl, by rw [HT2.out]; exact HI.out⟩
    · have hlt' : ¬ (k : Int) < (ms.length : Int) := by omega
      have e : ms.take k = ms := List.take_of_length_le (by omega)
      rw [e] at HI
      clear e
      have HF := hid (HR.out.set HI.out.2 HI.out.1 (Nat.le_trans (List.length_filter_le _ _) hfew))
      obtain ⟨sa, sc, hsv, _⟩ := HI.out.1.shape
      subst hsv
      have fq : wr.frozen? ⟨r, 0, none⟩ = false := (HR.out.under HI.out.2).f0
      go_wp2_with fail
      go_end0
      exact ⟨rfl, HF.out⟩
end Go.Proofs.Ytkdbclnnmpnfgaa

