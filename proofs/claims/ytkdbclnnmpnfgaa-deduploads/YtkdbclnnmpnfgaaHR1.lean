/- The document's table: notes in one row; of. -/
import Derived.Test.YtkdbclnnmpnfgaaHD19
import Derived.Test.YtkdbclnnmpnfgaaHWr
import Derived.Test.YtkdbclnnmpnfgaaHRefrd
namespace Go.Proofs.Ytkdbclnnmpnfgaa
open Go.RowKit Go.Maps
set_option maxRecDepth 100000
set_option linter.unusedSimpArgs false
set_option linter.unusedVariables false

abbrev Mk := Int × Nt
def mcells (m : Mk) : List Value := [.int .i64 m.1, .int .i64 m.2.ep, .int .i64 m.2.seq, .int .i64 m.2.n, .int .i64 m.2.off]
def flatM : List Mk → List Value
  | [] => []
  | m :: r => mcells m ++ flatM r
theorem flatM_length : ∀ l : List Mk, (flatM l).length = l.length * 5
  | [] => rfl
  | m :: r => by simp [flatM, mcells, flatM_length r]; omega
theorem flatM_append : ∀ l m : List Mk, flatM (l ++ m) = flatM l ++ flatM m
  | [], m => rfl
  | x :: r, m => by simp [flatM, flatM_append r m]
theorem flatM_snoc (l : List Mk) (x : Mk) : flatM (l ++ [x]) = flatM l ++ mcells x := by rw [flatM_append]; simp [flatM]
theorem flatM_at : ∀ (l : List Mk) (i : Nat) (p : Mk), l[i]? = some p → ∀ j u, (mcells p)[j]? = some u → (flatM l)[i * 5 + j]? = some u
  | [], i, m, h => by simp at h
  | y :: r, 0, m, h => by
    intro j u hu
    simp at h; subst h
    have hj := (List.getElem?_eq_some_iff.1 hu).1
    simp only [flatM, Nat.zero_mul, Nat.zero_add]
    rw [List.getElem?_append_left hj]
    exact hu
  | y :: r, i + 1, m, h => by
    intro j u hu
    have ih := flatM_at r i m (by simpa using h) j u hu
    have e1 : (i + 1) * 5 + j = 5 + (i * 5 + j) := by omega
    rw [e1]
    show (mcells y ++ flatM r)[5 + (i * 5 + j)]? = _
    rw [List.getElem?_append_right (by simp [mcells])]
    rw [← ih]
    congr 1
    simp [mcells]
theorem mcells_one (p : Mk) : ∀ u ∈ mcells p, u.oneCell' = true := by
  intro u hu
  simp [mcells] at hu
  rcases hu with rfl | rfl | rfl | rfl | rfl <;> rfl
theorem info70 : ∃ i, Try.prog.info? 70 = some i ∧ i.zero = some (.agg #[.int .i64 0, .int .i64 0, .int .i64 0, .int .i64 0, .int .i64 0]) ∧ i.size = 5 ∧ i.bytes = 40 := ⟨_, rfl, rfl, rfl, rfl⟩

/-- Marks in memory. -/
def ML (w : World) (B : Nat) (v : Value) (l : List Mk) : Prop := w.ownsRow B 70 5 v l.length (flatM l)
theorem ML.nil (w : World) (B : Nat) : ML w B (.slice none 0 0) [] := ⟨rfl, .inl ⟨rfl, rfl⟩⟩
theorem ML.shape {w : World} {B : Nat} {v : Value} {l : List Mk} (h : ML w B v l) : ∃ oa cap, v = .slice oa l.length cap ∧ l.length ≤ cap ∧ cap ≤ maxLen ∧ (oa = none → cap = 0) ∧ (0 < l.length → ∃ g, oa = some ⟨g, 0, none⟩) := by
  obtain ⟨_, ⟨e, h0⟩ | ⟨g, cap, cur, e, hb, hg, hn, hc, hs, ht⟩⟩ := h
  · exact ⟨none, 0, by rw [e, h0], by omega, Nat.zero_le _, fun _ => rfl, fun h => by omega⟩
  · exact ⟨some ⟨g, 0, none⟩, cap, e, hn, hc, (fun h => by cases h), fun _ => ⟨g, rfl⟩⟩
theorem ML.at_ {w : World} {B g n cap : Nat} {l : List Mk} (h : ML w B (.slice (some ⟨g, 0, none⟩) n cap) l) (i : Nat) (p : Mk) (hx : l[i]? = some p) :
    w.cell? ⟨g, i * 5, none⟩ = some (.int .i64 p.1) ∧ w.cell? ⟨g, i * 5 + 1, none⟩ = some (.int .i64 p.2.ep) ∧ w.cell? ⟨g, i * 5 + 2, none⟩ = some (.int .i64 p.2.seq) ∧ w.cell? ⟨g, i * 5 + 3, none⟩ = some (.int .i64 p.2.n) ∧ w.cell? ⟨g, i * 5 + 4, none⟩ = some (.int .i64 p.2.off) := by
  have hc : ∀ j u, (mcells p)[j]? = some u → w.cell? ⟨g, i * 5 + j, none⟩ = some u := fun j u hu => by
    have := World.ownsRow.cells h (g := g) rfl _ _ (flatM_at l i p hx j u hu)
    rwa [add_lit0] at this
  exact ⟨hc 0 _ rfl, hc 1 _ rfl, hc 2 _ rfl, hc 3 _ rfl, hc 4 _ rfl⟩
theorem ML.lt {w : World} {B : Nat} {v : Value} {l : List Mk} (h : ML w B v l) : ∀ k, v.ownBlock = some k → B ≤ k ∧ k < w.heap.size := fun k hk => World.ownsRow.lt h k hk
theorem ML.kept {w w1 : World} {B : Nat} {v : Value} {l : List Mk} (h : ML w B v l) (hb : ∀ k, v.ownBlock = some k → w1.heap[k]? = w.heap[k]?) : ML w1 B v l := by
  obtain ⟨h1, h2⟩ := h
  rcases h2 with h2 | ⟨g, cap, cur, rfl, hB, hg, r⟩
  · exact ⟨h1, .inl h2⟩
  · exact ⟨h1, .inr ⟨g, cap, cur, rfl, hB, (hb g rfl).trans hg, r⟩⟩
theorem ML.under {w w1 : World} {B : Nat} {v : Value} {l : List Mk} (h : ML w B v l) (hb : Below w.heap.size w w1) : ML w1 B v l := h.kept (fun k hk => hb.block k (h.lt k hk).2)
theorem ML.push {w w1 : World} {B : Nat} {v' : Value} {l : List Mk} {x : Mk} (ho : w1.ownsRow B 70 5 v' (l.length + 1) (flatM l ++ mcells x)) : ML w1 B v' (l ++ [x]) := by
  unfold ML
  rw [flatM_snoc, List.length_append]
  exact ho
/-- The document's table at block r. -/
structure RT (w : World) (r : Nat) (v : Value) (ms : List Mk) : Prop where
  cells : w.heap[r]? = some (.cells #[v] 58 (0, 0))
  row : ML w 0 v ms
  few : ms.length ≤ 100000
theorem RT.c0 {w : World} {r : Nat} {v : Value} {ms : List Mk} (h : RT w r v ms) : w.cell? ⟨r, 0, none⟩ = some v := cell_blk h.cells 0 _ rfl
theorem RT.f0 {w : World} {r : Nat} {v : Value} {ms : List Mk} (h : RT w r v ms) : w.frozen? ⟨r, 0, none⟩ = false := frozen_blk h.cells 0
theorem RT.lt {w : World} {r : Nat} {v : Value} {ms : List Mk} (h : RT w r v ms) : r < w.heap.size := (Array.getElem?_eq_some_iff.1 h.cells).1
theorem RT.under {w w1 : World} {r : Nat} {v : Value} {ms : List Mk} (h : RT w r v ms) (hb : Below w.heap.size w w1) : RT w1 r v ms := ⟨(hb.block r h.lt).trans h.cells, h.row.under hb, h.few⟩

def ofM (pid : Int) (ms : List Mk) : List Mk := ms.filter fun m => decide (m.1 = pid)
theorem ofM_take (pid : Int) (ms : List Mk) (k : Nat) (h : k < ms.length) : ofM pid (ms.take (k + 1)) = if ms[k].1 = pid then ofM pid (ms.take k) ++ [ms[k]] else ofM pid (ms.take k) := by
  unfold ofM
  rw [List.take_succ_eq_append_getElem h, List.filter_append]
  by_cases e : ms[k].1 = pid
  · rw [if_pos e]; simp [List.filter_cons, e]
  · rw [if_neg e]; simp [List.filter_cons, e]

set_option maxHeartbeats 3200000 in
theorem of_any {w : World} {r : Nat} {v : Value} {ms : List Mk} (h : RT w r v ms) (pid : Int) :
    Calls Try.prog 31 #[.pointer (some ⟨r, 0, none⟩), .int .i64 pid] w fun e w' => ∃ v', e = .returned v' ∧ ML w' w.heap.size v' (ofM pid ms) ∧ Below w.heap.size w w' := by
  have HR := hid h
  have hfew := h.few
  have c0 := h.c0
  obtain ⟨oa, cap, rfl, hcap, hcm, hnn, hoa⟩ := h.row.shape
  obtain ⟨j0, hj0, hz0, hz1, hz2⟩ := info70
  clear h
  go_enter Try.func31, Try.ntmps31
  go_wp2_with fail
  go_loopg [5, 6] ms.length (fun kx s5 s6 wr => ∃ (k : Nat) (sv : Value), k ≤ ms.length ∧ ms.length - k ≤ kx ∧ s6 = .int .i64 (k : Int) ∧ sv = s5 ∧ Hid (ML wr w.heap.size sv (ofM pid (ms.take k)) ∧ Below w.heap.size w wr))
  case atStart => exact ⟨0, _, by omega, by omega, rfl, rfl, ML.nil _ _, Below.refl _ _⟩
  case round =>
    obtain ⟨k, sv, hkl, hkx, rfl, rfl, HI⟩ := hrel
    have cq : wr.cell? ⟨r, 0, none⟩ = some (.slice oa ms.length cap) := kept_cell HI.out.2 c0
    have hws := HI.out.2.size
    by_cases hlt : k < ms.length
    · have hlt' : (k : Int) < (ms.length : Int) := by omega
      obtain ⟨g, rfl⟩ := hoa (by omega)
      have hx : ms[k]? = some ms[k] := List.getElem?_eq_getElem hlt
      obtain ⟨r0, r1, r2, r3, r4⟩ := (HR.out.row.under HI.out.2).at_ k _ hx
      have HT := hid (ofM_take pid ms k hlt)
      have hgw := (HR.out.row.lt g rfl).2
      clear hx
      generalize ms[k] = X at *
      obtain ⟨xp, xe, xs, xn, xo⟩ := X
      simp only at *
      by_cases hp : xp = pid
      · subst hp
        have HT2 : Hid (ofM xp (ms.take (k + 1)) = ofM xp (ms.take k) ++ [(xp, ⟨xe, xs, xn, xo⟩)]) := by show _ = _; rw [HT.out, if_pos rfl]
        have hbA : Below wr.heap.size wr (wr.alloc (.cells #[.int .i64 xp, .int .i64 xe, .int .i64 xs, .int .i64 xn, .int .i64 xo] 70)) := (Below.refl _ _).alloc (Nat.le_refl _) _
        have HROW := hid (HI.out.1.under hbA)
        unfold ML at HROW
        have hnbA := heap_alloc_new wr (.cells #[.int .i64 xp, .int .i64 xe, .int .i64 xs, .int .i64 xn, .int .i64 xo] 70)
        have HNW : Hid (∀ j u, (mcells (xp, ⟨xe, xs, xn, xo⟩))[j]? = some u → (wr.alloc (.cells #[.int .i64 xp, .int .i64 xe, .int .i64 xs, .int .i64 xn, .int .i64 xo] 70)).cell? ((⟨wr.heap.size, 0, none⟩ : Addr).add j) = some u) := fun j u hu => by
          rw [add_lit0]
          refine cell_blk hnbA j u ?_
          rw [← hu]
          simp [mcells]
        have HON := hid (mcells_one (xp, ⟨xe, xs, xn, xo⟩))
        have HNC : Hid ((mcells (xp, ⟨xe, xs, xn, xo⟩)).length = 1 * 5) := rfl
        have hol : (ofM xp (ms.take k)).length ≤ 100000 := by
          have h1 : (ofM xp (ms.take k)).length ≤ (ms.take k).length := List.length_filter_le _ _
          rw [List.length_take] at h1; omega
        have HPU : Hid (∀ (v' : Value) (w9 : World), w9.ownsRow w.heap.size 70 5 v' ((ofM xp (ms.take k)).length + 1) (flatM (ofM xp (ms.take k)) ++ mcells (xp, ⟨xe, xs, xn, xo⟩)) → (wr.alloc (.cells #[.int .i64 xp, .int .i64 xe, .int .i64 xs, .int .i64 xn, .int .i64 xo] 70)).grownBy w9 sv.ownBlock → ML w9 w.heap.size v' (ofM xp (ms.take (k + 1))) ∧ Below w.heap.size w w9) := fun v' w9 h1 h2 => by
          refine ⟨by rw [HT2.out]; exact ML.push (w := w) h1, ?_⟩
          have hb2 := HI.out.2.trans (hbA.mono hws)
          exact hb2.grown h2 hb2.size (fun j hj => (HI.out.1.lt j hj).1)
        obtain ⟨sa, sc, hsv, _⟩ := HI.out.1.shape
        clear hbA hnbA
        generalize flatM (ofM xp (ms.take k)) = FL at *
        generalize mcells (xp, ⟨xe, xs, xn, xo⟩) = NC at *
        generalize (ofM xp (ms.take k)).length = OL at *
        subst hsv
        go_wp2_with (at_builtin; refine wpList_append_own_at _ rfl _ _ 56 rfl w.heap.size 70 j0 _ 5 40 Try.underlying56 hj0 hz0 hz1 hz2 rfl (by decide) _ OL FL rfl HROW.out ⟨wr.heap.size, 0, none⟩ 1 1 NC rfl HNC.out HNW.out HON.out (by unfold maxLen; omega) (by omega) (by simp; omega) ?_; intro v' w9 hown9 hg9 _ hat9; have HG := hid (HPU.out v' w9 hown9 hg9); clear hown9 hg9 hat9)
        go_roundg (ms.length - (k + 1))
        case measure => omega
        case rel => exact ⟨k + 1, v', by omega, Nat.le_refl _, by go_num, rfl, HG.out⟩
      · have HT2 : Hid (ofM pid (ms.take (k + 1)) = ofM pid (ms.take k)) := by show _ = _; rw [HT.out, if_neg hp]
        have hp' : (xp == pid) = false := by simpa using hp
        go_wp2_with fail
        go_roundg (ms.length - (k + 1))
        case measure => omega
        case rel => exact ⟨k + 1, sv, by omega, Nat.le_refl _, by go_num, rfl, by rw [HT2.out]; exact HI.out⟩
    · have hlt' : ¬ (k : Int) < (ms.length : Int) := by omega
      have e : ms.take k = ms := List.take_of_length_le (by omega)
      rw [e] at HI
      clear e
      obtain ⟨sa, sc, hsv, _⟩ := HI.out.1.shape
      have HML := hid HI.out
      subst hsv
      go_wp2_with fail
      go_ret
      exact ⟨.slice sa (ofM pid ms).length sc, rfl, HML.out⟩
end Go.Proofs.Ytkdbclnnmpnfgaa

