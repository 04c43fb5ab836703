/- rise. -/
import Derived.Test.YtjggdecjnnpjaaaGreatH8
namespace Go.Proofs.YtjggdecjnnpjaaaGreat
open Go.RowKit Go.Maps Go.Sort
set_option maxRecDepth 100000
set_option linter.unusedSimpArgs false
set_option linter.unusedVariables false

set_option maxHeartbeats 3200000 in
theorem rise_any {w : World} {v : Value} {l : List (Int × Int)} (h : EL w v l) (hlen : l.length ≤ 200) :
    Calls Tryz.prog 64 #[v] w fun e w' => e = .returned (.bool (riseB (-1) (-1) l)) ∧ Below w.heap.size w w' := by
  obtain ⟨oa, cap, rfl, hcap, hcm, hnn, hoa⟩ := h.shape
  have HE := hid h
  have H0 : Hid (Below w.heap.size w (w.alloc (.cells #[.int .i64 (-1), .int .i64 (-1)] 68)) ∧ (w.alloc (.cells #[.int .i64 (-1), .int .i64 (-1)] 68)).heap[w.heap.size]? = some (.cells #[.int .i64 (-1), .int .i64 (-1)] 68) ∧ riseB (-1) (-1) l = riseB (-1) (-1) (l.drop 0)) := ⟨(Below.refl _ _).alloc (Nat.le_refl _) _, heap_alloc_new w _, rfl⟩
  clear h
  go_enter Tryz.func64, Tryz.ntmps64
  go_wp2_with fail
  go_loopg [9] l.length (fun kx s9 wr => ∃ (k : Nat) (a0 a1 : Int), k ≤ l.length ∧ l.length - k ≤ kx ∧ s9 = .int .i64 (k : Int) ∧ Hid (Below w.heap.size w wr ∧ wr.heap[w.heap.size]? = some (.cells #[.int .i64 a0, .int .i64 a1] 68) ∧ riseB (-1) (-1) l = riseB a0 a1 (l.drop k)))
  case atStart => exact ⟨0, -1, -1, by omega, by omega, rfl, H0⟩
  case round =>
    obtain ⟨k, a0, a1, hk, hkx, rfl, HI⟩ := hrel
    clear H0
    by_cases hlt : k < l.length
    · have hlt' : (k : Int) < (l.length : Int) := by omega
      obtain ⟨g, rfl⟩ := hoa (by omega)
      have hx : l[k]? = some l[k] := List.getElem?_eq_getElem hlt
      obtain ⟨r0, r1⟩ := (HE.out.under HI.out.1).at_ k l[k] hx
      have HDr : Hid (l.drop k = l[k] :: l.drop (k + 1)) := List.drop_eq_getElem_cons hlt
      clear hx
      generalize l[k] = x at *
      have HV : Hid (riseB (-1) (-1) l = (decide (a0 < x.1) && decide (a1 < x.2) && inB x.1 && inB x.2 && riseB x.1 x.2 (l.drop (k + 1)))) := by
        show _ = _
        rw [HI.out.2.2, HDr.out]
        rfl
      have hws := (Array.getElem?_eq_some_iff.1 HI.out.2.1).1
      have hwne : ¬ w.heap.size = wr.heap.size := by omega
      have hwne' : ¬ wr.heap.size = w.heap.size := by omega
      have HA : Hid ((wr.alloc (.cells #[.int .i64 x.1, .int .i64 x.2] 68)).heap[w.heap.size]? = some (.cells #[.int .i64 a0, .int .i64 a1] 68)) := by
        show _ = _
        rw [Below.heap_alloc _ _ _ hws]
        exact HI.out.2.1
      have HX := hid (heap_alloc_new wr (.cells #[.int .i64 x.1, .int .i64 x.2] 68))
      have q0 := cell_at HA.out (j := 0) rfl
      have q1 := cell_at HA.out (j := 1) rfl
      have f0 : (wr.alloc (.cells #[.int .i64 x.1, .int .i64 x.2] 68)).frozen? ⟨w.heap.size, 0, none⟩ = false := frozen_blk HA.out 0
      have f1 : (wr.alloc (.cells #[.int .i64 x.1, .int .i64 x.2] 68)).frozen? ⟨w.heap.size, 1, none⟩ = false := frozen_blk HA.out 1
      have x0 := cell_at HX.out (j := 0) rfl
      have x1 := cell_at HX.out (j := 1) rfl
      have HB := hid (HI.out.1.alloc HI.out.1.size (.cells #[.int .i64 x.1, .int .i64 x.2] 68))
      have H29 : Hid (∀ (n : Int) (W : World), Calls Tryz.prog 30 #[.int .i64 n] W fun e w' => e = .returned (.bool (inB n)) ∧ w' = W) := fun n W => isNum_any n W
      have HEnd : Hid (Below w.heap.size w (((wr.alloc (.cells #[.int .i64 x.1, .int .i64 x.2] 68)).setCell ⟨w.heap.size, 0, none⟩ (.int .i64 x.1)).setCell ⟨w.heap.size, 1, none⟩ (.int .i64 x.2)) ∧ (((wr.alloc (.cells #[.int .i64 x.1, .int .i64 x.2] 68)).setCell ⟨w.heap.size, 0, none⟩ (.int .i64 x.1)).setCell ⟨w.heap.size, 1, none⟩ (.int .i64 x.2)).heap[w.heap.size]? = some (.cells #[.int .i64 x.1, .int .i64 x.2] 68)) :=
        ⟨(HB.out.setCell (by exact Nat.le_refl _) _).setCell (by exact Nat.le_refl _) _, set_box (set_box HA.out)⟩
      by_cases c1 : x.1 ≤ a0
      · rw [decide_eq_false (by omega)] at HV
        go_wp2_with fail
        go_ret
        exact ⟨by rw [HV.out]; rfl, HB.out⟩
      · by_cases c2 : x.2 ≤ a1
        · rw [decide_eq_false (p := a1 < x.2) (by omega), Bool.and_false] at HV
          go_wp2_with fail
          go_ret
          exact ⟨by rw [HV.out]; rfl, HB.out⟩
        · rw [decide_eq_true (p := a0 < x.1) (by omega), decide_eq_true (p := a1 < x.2) (by omega)] at HV
          cases c3 : inB x.1 with
          | false =>
            rw [c3] at HV
            go_wp2_with fail
            refine (H29.out _ _).mono ?_
            rintro en w1 ⟨rfl, rfl⟩
            rw [c3]
            go_wp2_with fail
            go_ret
            exact ⟨by rw [HV.out]; rfl, HB.out⟩
          | true =>
            rw [c3] at HV
            cases c4 : inB x.2 with
            | false =>
              rw [c4] at HV
              go_wp2_with fail
              refine (H29.out _ _).mono ?_
              rintro en w1 ⟨rfl, rfl⟩
              rw [c3]
              go_wp2_with fail
              refine (H29.out _ _).mono ?_
              rintro en w1 ⟨rfl, rfl⟩
              rw [c4]
              go_wp2_with fail
              go_ret
              exact ⟨by rw [HV.out]; rfl, HB.out⟩
            | true =>
              rw [c4] at HV
              go_wp2_with fail
              refine (H29.out _ _).mono ?_
              rintro en w1 ⟨rfl, rfl⟩
              rw [c3]
              go_wp2_with fail
              refine (H29.out _ _).mono ?_
              rintro en w1 ⟨rfl, rfl⟩
              rw [c4]
              generalize wr.alloc (.cells #[.int .i64 x.1, .int .i64 x.2] 68) = A at *
              go_wp2_with fail
              go_roundg (l.length - (k + 1))
              case measure => omega
              case rel => exact ⟨k + 1, x.1, x.2, by omega, Nat.le_refl _, by go_num, HEnd.out.1, HEnd.out.2, by rw [HV.out]; rfl⟩
    · have hlt' : ¬ (k : Int) < (l.length : Int) := by omega
      have HV : Hid (riseB (-1) (-1) l = true) := by
        show _ = _
        rw [HI.out.2.2, List.drop_eq_nil_of_le (by omega)]
        rfl
      go_wp2_with fail
      go_ret
      exact ⟨by rw [HV.out]; rfl, HI.out.1⟩

end Go.Proofs.YtjggdecjnnpjaaaGreat

/- Last, End, All. -/
namespace Go.Proofs.YtjggdecjnnpjaaaGreat
open Go.RowKit Go.Maps Go.Sort
set_option maxRecDepth 100000
set_option linter.unusedSimpArgs false
set_option linter.unusedVariables false

def acells (x : Int × Int) : List Value := [.int .i64 x.1, .int .i64 x.2, .string ⟨#[]⟩]
def flatA : List (Int × Int) → List Value
  | [] => []
  | m :: r => acells m ++ flatA r
theorem flatA_append : ∀ l m : List (Int × Int), flatA (l ++ m) = flatA l ++ flatA m
  | [], m => rfl
  | x :: r, m => by simp [flatA, flatA_append r m]
theorem flatA_length : ∀ l : List (Int × Int), (flatA l).length = l.length * 3
  | [] => rfl
  | m :: r => by simp [flatA, acells, flatA_length r]; omega
theorem info51 : ∃ i, Tryz.prog.info? 51 = some i ∧ i.zero = some (.agg #[.int .i64 0, .int .i64 0, .string ⟨#[]⟩]) ∧ i.size = 3 ∧ i.bytes = 32 := ⟨_, rfl, rfl, rfl, rfl⟩
theorem ownsRow_kept {w w' : World} {B T z n : Nat} {v : Value} {xs : List Value} (h : w.ownsRow B T z v n xs) (hk : ∀ q, v.ownBlock = some q → w'.heap[q]? = w.heap[q]?) : w'.ownsRow B T z v n xs := by
  obtain ⟨h1, ⟨e, h0⟩ | ⟨g, cap, cur, e, hb, hg, rest⟩⟩ := h
  · exact ⟨h1, .inl ⟨e, h0⟩⟩
  · exact ⟨h1, .inr ⟨g, cap, cur, e, hb, (hk g (by rw [e]; rfl)).trans hg, rest⟩⟩
set_option maxHeartbeats 3200000 in
theorem call_all {w : World} {B : Nat → Prop} {q a name l size fs} (h : CD w B q a name l size fs) (hlen : l.length ≤ 200) :
    Calls Tryz.prog 20 #[.pointer (some ⟨q, 0, none⟩)] w fun e w' => ∃ rv, e = .returned rv ∧ w'.ownsRow w.heap.size 51 3 rv l.length (flatA l) ∧ Below w.heap.size w w' := by
  obtain ⟨i0, hi0, hz0, hz1, hz2⟩ := info51
  obtain ⟨oa, cap, k2, kw, HEL, hcap, hcm, hnn, hoa⟩ := h.q (Below.refl _ _)
  have HE := hid HEL
  clear h HEL kw
  go_enter Tryz.func20, Tryz.ntmps20
  go_wp2_with fail
  go_loopg [3, 11] l.length (fun kx s3 s11 wr => ∃ (k : Nat) (sv : Value), k ≤ l.length ∧ l.length - k ≤ kx ∧ s11 = .int .i64 (k : Int) ∧ sv = s3 ∧ Hid (wr.ownsRow w.heap.size 51 3 sv k (flatA (l.take k)) ∧ Below w.heap.size w wr))
  case atStart => exact ⟨0, _, by omega, by omega, rfl, rfl, ⟨by simp [flatA], .inl ⟨rfl, rfl⟩⟩, Below.refl _ _⟩
  case round =>
    obtain ⟨k, sv, hk, hkx, rfl, rfl, HI⟩ := hrel
    by_cases hlt : k < l.length
    · have hlt' : (k : Int) < (l.length : Int) := by omega
      obtain ⟨g, rfl⟩ := hoa (by omega)
      have hx : l[k]? = some l[k] := List.getElem?_eq_getElem hlt
      obtain ⟨r0, r1⟩ := (HE.out.under HI.out.2).at_ k l[k] hx
      have HX := hid hx
      generalize l[k] = x at *
      have HF : Hid (flatA (l.take (k + 1)) = flatA (l.take k) ++ acells x) := by
        show _ = _
        rw [List.take_add_one, HX.out, flatA_append]
        simp [flatA]
      clear hx
      have hbw := HI.out.2.size
      have hz1' : (wr.alloc (.cells #[.int .i64 x.1, .int .i64 x.2] 68)).heap.size = wr.heap.size + 1 := by simp
      have HR : Hid (((wr.alloc (.cells #[.int .i64 x.1, .int .i64 x.2] 68)).alloc (.cells #[.int .i64 x.1, .int .i64 x.2, .string ⟨#[]⟩] 51)).ownsRow w.heap.size 51 3 sv k (flatA (l.take k))) := by
        refine ownsRow_kept HI.out.1 (fun q hq => ?_)
        have := (World.ownsRow.lt HI.out.1 q hq).2
        rw [Below.heap_alloc _ _ _ (by omega), Below.heap_alloc _ _ _ this]
      have HNW : Hid (∀ j u, (acells x)[j]? = some u → ((wr.alloc (.cells #[.int .i64 x.1, .int .i64 x.2] 68)).alloc (.cells #[.int .i64 x.1, .int .i64 x.2, .string ⟨#[]⟩] 51)).cell? ((⟨wr.heap.size + 1, 0, none⟩ : Addr).add j) = some u) := fun j u hu => by
        rw [add_lit0]
        have hh := heap_alloc_new (wr.alloc (.cells #[.int .i64 x.1, .int .i64 x.2] 68)) (.cells #[.int .i64 x.1, .int .i64 x.2, .string ⟨#[]⟩] 51)
        rw [hz1'] at hh
        exact cell_at hh (by simpa [acells] using hu)
      have HON : Hid (∀ u ∈ acells x, u.oneCell' = true) := by intro u hu; simp [acells] at hu; rcases hu with rfl | rfl | rfl <;> rfl
      have HGR : Hid (∀ w2, ((wr.alloc (.cells #[.int .i64 x.1, .int .i64 x.2] 68)).alloc (.cells #[.int .i64 x.1, .int .i64 x.2, .string ⟨#[]⟩] 51)).grownBy w2 sv.ownBlock → Below w.heap.size w w2) := fun w2 hg => by
        have hs2 : ((wr.alloc (.cells #[.int .i64 x.1, .int .i64 x.2] 68)).alloc (.cells #[.int .i64 x.1, .int .i64 x.2, .string ⟨#[]⟩] 51)).heap.size = wr.heap.size + 1 + 1 := by simp
        have hgs := hg.size
        have hb := HI.out.2
        refine ⟨hg.os.trans hb.os, hg.tape.trans hb.tape, hg.output.trans hb.output, by omega, fun q hq => ?_⟩
        rw [hg.block q (by omega) (fun e => by have := (World.ownsRow.lt HI.out.1 q e.symm).1; omega), Below.heap_alloc _ _ _ (by omega), Below.heap_alloc _ _ _ (by omega)]
        exact hb.block q hq
      generalize flatA (l.take k) = F at *
      go_wp2_with (at_builtin; refine wpList_append_own_at _ rfl _ _ 44 rfl w.heap.size 51 i0 _ 3 32 Tryz.underlying44 hi0 hz0 hz1 hz2 rfl (by decide) _ k F rfl HR.out ⟨wr.heap.size + 1, 0, none⟩ 1 1 (acells x) rfl rfl HNW.out HON.out (by unfold maxLen; omega) (by omega) (by simp; omega) ?_; intro v' w2 hown2 hg2 _ hat)
      go_roundg (l.length - (k + 1))
      case measure => omega
      case rel => exact ⟨k + 1, v', by omega, Nat.le_refl _, by go_num, rfl, by rw [HF.out]; exact hown2, HGR.out _ hg2⟩
    · have hlt' : ¬ (k : Int) < (l.length : Int) := by omega
      have e : k = l.length := by omega
      subst e
      rw [List.take_length] at HI
      have hsh : ∃ o n c, sv = .slice o n c := by
        rcases HI.out.1.2 with ⟨e, _⟩ | ⟨g, cap', cur, e, _⟩
        · exact ⟨_, _, _, e⟩
        · exact ⟨_, _, _, e⟩
      obtain ⟨o, n, c, rfl⟩ := hsh
      go_wp2_with fail
      go_ret
      exact ⟨_, rfl, HI.out⟩

end Go.Proofs.YtjggdecjnnpjaaaGreat

