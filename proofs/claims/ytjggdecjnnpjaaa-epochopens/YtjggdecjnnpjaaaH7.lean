/- Two rows of entries; keep. -/
import Derived.Test.YtjggdecjnnpjaaaH6
import Derived.Laws.StructEq
namespace Go.Proofs.Ytjggdecjnnpjaaa
open Go.RowKit Go.Maps Go.Sort
set_option maxRecDepth 100000
set_option linter.unusedSimpArgs false
set_option linter.unusedVariables false


set_option maxHeartbeats 1000000 in
theorem neq74 (x y : Int × Int) (w : World) : (binOp .neq 74 (.agg #[.int .i64 x.1, .int .i64 x.2]) (.agg #[.int .i64 y.1, .int .i64 y.2])).run Try.prog w = .ok (.bool (!decide (x = y))) w := by
  rw [run_neq_struct, run_equalIn_agg w 9999 74 _ _ (by kernel_rfl) (by kernel_rfl)]
  obtain ⟨a, b⟩ := x
  obtain ⟨c, d⟩ := y
  by_cases h1 : a = c <;> by_cases h2 : b = d <;> simp [go_sem, h1, h2]
theorem take_ext {l m : List (Int × Int)} (hl : l.length = m.length) (h : ∀ (i : Nat) x y, l[i]? = some x → m[i]? = some y → x = y) : l = m := by
  apply List.ext_getElem? 
  intro i
  rcases Nat.lt_or_ge i l.length with h1 | h1
  · have h2 : i < m.length := by omega
    have e1 : l[i]? = some l[i] := by simp [h1]
    have e2 : m[i]? = some m[i] := by simp [h2]
    rw [e1, e2, h i _ _ e1 e2]
  · rw [List.getElem?_eq_none h1, List.getElem?_eq_none (by omega)]
set_option maxHeartbeats 1600000 in
theorem equal_any {w : World} {v1 v2 : Value} {l m : List (Int × Int)} (h1 : EL w v1 l) (h2 : EL w v2 m) (hl : l.length ≤ 201) (hm : m.length ≤ 201) :
    Calls Try.prog 51 #[v1, v2] w fun e w' => e = .returned (.bool (decide (l = m))) ∧ Below w.heap.size w w' := by
  obtain ⟨oa, cap, rfl, hcap, hcm, hnn, hoa⟩ := h1.shape
  obtain ⟨ob, cbp, rfl, hcbp, hcbm, hnnb, hob⟩ := h2.shape
  by_cases he : l.length = m.length
  · have hne : ((l.length : Int) != (m.length : Int)) = false := by simp; omega
    have HL := hid he
    have H1 := hid h1
    have H2 := hid h2
    clear h1 h2 he
    go_enter Try.func51, Try.ntmps51
    go_wp2_with fail
    go_loopg [13] l.length (fun kx s13 wr => ∃ k : Nat, k ≤ l.length ∧ l.length - k ≤ kx ∧ s13 = .int .i64 (k : Int) ∧ Hid (Below w.heap.size w wr ∧ ∀ (i : Nat) x y, i < k → l[i]? = some x → m[i]? = some y → x = y))
    case atStart => exact ⟨0, by omega, by omega, rfl, Below.refl _ _, fun i x y hi => by omega⟩
    case round =>
      obtain ⟨k, hk, hkx, rfl, HB⟩ := hrel
      by_cases hlt : k < l.length
      · have hlt' : (k : Int) < (l.length : Int) := by omega
        have hlm : k < m.length := by have := HL.out; omega
        have hlm' : (k : Int) < (m.length : Int) := by omega
        obtain ⟨ga, rfl⟩ := hoa (by omega)
        obtain ⟨gb, rfl⟩ := hob (by omega)
        have hx : l[k]? = some l[k] := List.getElem?_eq_getElem hlt
        have hy : m[k]? = some m[k] := List.getElem?_eq_getElem hlm
        obtain ⟨a0, a1⟩ := (H1.out.under HB.out.1).at_ k _ hx
        obtain ⟨b0, b1⟩ := (H2.out.under HB.out.1).at_ k _ hy
        have HX := hid hx
        have HY := hid hy
        clear hx hy
        generalize l[k] = x at *
        generalize m[k] = y at *
        by_cases hxy : x = y
        · subst hxy
          have hq : ∀ W : World, (binOp .neq 74 (.agg #[.int .i64 x.1, .int .i64 x.2]) (.agg #[.int .i64 x.1, .int .i64 x.2])).run Try.prog W = .ok (.bool false) W := fun W => by rw [neq74]; simp
          go_wp2_with fail
          try go_quiet (fail)
          try go_wp2_with fail
          go_roundg (l.length - (k + 1))
          case measure => omega
          case rel =>
            refine ⟨k + 1, by omega, Nat.le_refl _, by go_num, by first | exact HB.out.1 | exact HB.out.1.drew | exact below_drewN HB.out.1 _, fun i x' y' hi e1 e2 => ?_⟩
            rcases Nat.lt_or_ge i k with h | h
            · exact HB.out.2 i x' y' h e1 e2
            · have e : i = k := by omega
              subst e
              rw [HX.out] at e1
              rw [HY.out] at e2
              cases e1
              cases e2
              rfl
        · have hq : ∀ W : World, (binOp .neq 74 (.agg #[.int .i64 x.1, .int .i64 x.2]) (.agg #[.int .i64 y.1, .int .i64 y.2])).run Try.prog W = .ok (.bool true) W := fun W => by rw [neq74]; simp [hxy]
          have HF : Hid (decide (l = m) = false) := by
            refine decide_eq_false (fun e => hxy ?_)
            have h1 := HX.out
            have h2 := HY.out
            rw [e] at h1
            rw [h1] at h2
            cases h2
            rfl
          clear hxy
          go_wp2_with fail
          try go_quiet (fail)
          try go_wp2_with fail
          go_ret
          exact ⟨by rw [HF.out]; rfl, by first | exact HB.out.1 | exact HB.out.1.drew | exact below_drewN HB.out.1 _⟩
      · have hlt' : ¬ (k : Int) < (l.length : Int) := by omega
        have HF : Hid (decide (l = m) = true) := decide_eq_true (take_ext HL.out (fun i x y e1 e2 => HB.out.2 i x y (by have := (List.getElem?_eq_some_iff.1 e1).1; omega) e1 e2))
        go_wp2_with fail
        go_ret
        exact ⟨by rw [HF.out]; rfl, HB.out.1⟩
  · have hne : ((l.length : Int) != (m.length : Int)) = true := by simp; omega
    have HF : Hid (decide (l = m) = false) := decide_eq_false (fun e => he (by rw [e]))
    clear h1 h2 he
    go_enter Try.func51, Try.ntmps51
    go_wp2_with fail
    go_ret
    exact ⟨by rw [HF.out]; rfl, Below.refl _ _⟩
set_option maxHeartbeats 400000 in
theorem cdisk_any {w : World} {U q a name v l} (h : CacheM w U q a name v l) : Calls Try.prog 40 #[.pointer (some ⟨q, 0, none⟩)] w fun e w' => e = .returned (.pointer (some ⟨a, 0, none⟩)) ∧ w' = w := by
  obtain ⟨k0, k1, k2⟩ := h.c
  clear h
  go_enter Try.func40, Try.ntmps40
  go_wp2_with fail
  go_ret
  exact ⟨rfl, rfl⟩

end Go.Proofs.Ytjggdecjnnpjaaa

