/- Whether a list is right. -/
import Derived.Test.YtcffomhcmilcpaaGreatM2
namespace Go.Proofs.YtcffomhcmilcpaaGreat
open Go.RowKit Go.Maps
set_option linter.unusedSimpArgs false
set_option linter.unusedVariables false
set_option maxRecDepth 100000

theorem set_box {w : World} {q j : Nat} {cs : Array Value} {T : TypeId} {v : Value} (h : w.heap[q]? = some (.cells cs T)) : (w.setCell ⟨q, j, none⟩ v).heap[q]? = some (.cells (cs.setIfInBounds j v) T) := by
  exact heap_setCell_same w q j cs T v h
theorem frz_blk {w : World} {q : Nat} {cs : Array Value} {T : TypeId} (h : w.heap[q]? = some (.cells cs T)) (j : Nat) : w.frozen? ⟨q, j, none⟩ = false := by
  simp [World.frozen?, h]
def Seen (w : World) (g : Nat) (l : List Int) : Prop := ∃ cs : Array Value, w.heap[g]? = some (.cells cs 186) ∧ cs.size = 8 ∧ ∀ j : Nat, j < 8 → cs[j]? = some (.bool (decide ((j : Int) ∈ l)))
theorem Seen.cell {w : World} {g : Nat} {l : List Int} (h : Seen w g l) (j : Nat) (hj : j < 8) : w.cell? ⟨g, j, none⟩ = some (.bool (decide ((j : Int) ∈ l))) := by
  obtain ⟨cs, h1, h2, h3⟩ := h
  exact cell_blk h1 j _ (h3 j hj)
theorem Seen.frz {w : World} {g : Nat} {l : List Int} (h : Seen w g l) (j : Nat) : w.frozen? ⟨g, j, none⟩ = false := by
  obtain ⟨cs, h1, h2, h3⟩ := h
  exact frz_blk h1 j
theorem Seen.put {w : World} {g : Nat} {l : List Int} (h : Seen w g l) (n : Nat) (hn : n < 8) : Seen (w.setCell ⟨g, n, none⟩ (.bool true)) g (l ++ [(n : Int)]) := by
  obtain ⟨cs, h1, h2, h3⟩ := h
  refine ⟨_, set_box h1, by simp [h2], fun j hj => ?_⟩
  rw [Array.getElem?_setIfInBounds]
  by_cases e : n = j
  · subst e; simp [h2, hj]
  · rw [if_neg e, h3 j hj]
    have : ¬ ((j : Int) = (n : Int)) := by omega
    simp [this]
theorem ids_not {l : List Int} {x : Int} {k : Nat} (hk : l[k]? = some x) (h : ¬ (1 ≤ x ∧ x ≤ 7)) : idsB l = false := by
  rw [Bool.eq_false_iff]
  intro e
  exact h ((idsB_iff.1 e).2 x (List.mem_of_getElem? hk))
theorem ids_twice {l : List Int} {x : Int} {k : Nat} (hk : l[k]? = some x) (h : x ∈ l.take k) : idsB l = false := by
  rw [Bool.eq_false_iff]
  intro e
  have hn := (idsB_iff.1 e).1
  have hlt := (List.getElem?_eq_some_iff.1 hk).1
  have e1 : l = l.take k ++ l.drop k := (List.take_append_drop k l).symm
  rw [e1] at hn
  have := (List.nodup_append.1 hn).2.2 x h x (by
    rw [List.drop_eq_getElem_cons hlt, (List.getElem?_eq_some_iff.1 hk).2]; simp)
  exact this rfl
theorem ids_snoc {l : List Int} {x : Int} (h : idsB l = true) (h1 : 1 ≤ x ∧ x ≤ 7) (h2 : x ∉ l) : idsB (l ++ [x]) = true := by
  rw [idsB_iff] at *
  refine ⟨List.nodup_append.2 ⟨h.1, by simp, fun a ha b hb => by simp at hb; subst hb; intro e; subst e; exact h2 ha⟩, fun y hy => ?_⟩
  rcases List.mem_append.1 hy with hy | hy
  · exact h.2 y hy
  · simp at hy; subst hy; exact h1

set_option maxHeartbeats 1600000 in
theorem areRight_any {w : World} {v : Value} {l : List Int} (h : IL w v l) : Calls Tryz.prog 168 #[v] w fun e w' => e = .returned (.bool (idsB l)) ∧ Below w.heap.size w w' := by
  obtain ⟨⟨a, cap, rfl, hcap, hcm, hnn, hat⟩, hok, hfew⟩ := h
  have HA := hid hat
  have HOK := hid hok
  have hlen : l.length ≤ 9223372036854775807 := by omega
  clear hat hok hnn hcap hcm
  go_enter Tryz.func168, Tryz.ntmps168
  go_wp2_with fail
  have hz0 : w.heap.size < (w.alloc (.cells #[.bool false, .bool false, .bool false, .bool false, .bool false, .bool false, .bool false, .bool false] 186)).heap.size := by simp
  have HS0 : Hid (Seen (w.alloc (.cells #[.bool false, .bool false, .bool false, .bool false, .bool false, .bool false, .bool false, .bool false] 186)) w.heap.size []) := ⟨_, heap_alloc_new w _, rfl, fun j hj => by
    match j, hj with
    | 0, _ => rfl
    | 1, _ => rfl
    | 2, _ => rfl
    | 3, _ => rfl
    | 4, _ => rfl
    | 5, _ => rfl
    | 6, _ => rfl
    | 7, _ => rfl⟩
  have HB0 : Hid (Below w.heap.size w (w.alloc (.cells #[.bool false, .bool false, .bool false, .bool false, .bool false, .bool false, .bool false, .bool false] 186))) := (Below.refl _ _).alloc (Nat.le_refl _) _
  generalize w.alloc (.cells #[.bool false, .bool false, .bool false, .bool false, .bool false, .bool false, .bool false, .bool false] 186) = W at *
  go_loopg [8] l.length (fun kx s8 wr => ∃ k : Nat, k ≤ l.length ∧ l.length - k ≤ kx ∧ s8 = .int .i64 (k : Int) ∧ Hid (Seen wr w.heap.size (l.take k) ∧ Below w.heap.size w wr ∧ idsB (l.take k) = true))
  case atStart => exact ⟨0, Nat.zero_le _, by omega, rfl, by rw [List.take_zero]; exact HS0.out, HB0.out, rfl⟩
  case round =>
    obtain ⟨k, hk, hkx, rfl, HR⟩ := hrel
    by_cases hlt : k < l.length
    · obtain ⟨b, off, rfl, hb, hc⟩ := HA.out (by intro e; rw [e] at hlt; simp at hlt)
      have hck := kept_cell HR.out.2.1 (hc k hlt)
      have hok := HOK.out l[k] (by simp)
      have HX : Hid (l[k]? = some l[k]) := List.getElem?_eq_getElem hlt
      have HT : Hid (l.take (k + 1) = l.take k ++ [l[k]]) := List.take_succ_eq_append_getElem hlt
      have H58 := hid (fun W' => isBroker_any l[k] W' hok)
      have hlt' : (k : Int) < (l.length : Int) := by omega
      generalize l[k] = y at *
      clear hc
      by_cases hy : 1 ≤ y ∧ y ≤ 7
      · obtain ⟨n, rfl⟩ : ∃ n : Nat, y = (n : Int) := ⟨y.toNat, by omega⟩
        have hn8 : n < 8 := by omega
        have hn8' : (n : Int) < 8 := by omega
        have hn0 : (0 : Int) ≤ (n : Int) := by omega
        have HU : Hid (upB (n : Int) 7 = true) := upB_iff.2 hy
        have hcs := HR.out.1.cell n hn8
        have hfz := HR.out.1.frz n
        have HP := hid (HR.out.1.put n hn8)
        have HY := hid hy
        rw [HU.out] at H58
        by_cases hin : (n : Int) ∈ l.take k
        · have HF := hid (ids_twice HX.out hin)
          rw [decide_eq_true hin] at hcs
          clear hin hy
          go_wp2_with fail
          refine (H58.out _).mono ?_
          rintro e w1 ⟨rfl, rfl⟩
          go_wp2_with fail
          go_ret
          exact ⟨by rw [HF.out]; rfl, HR.out.2.1⟩
        · have HF := hid (ids_snoc HR.out.2.2 hy hin)
          rw [decide_eq_false hin] at hcs
          clear hin hy
          go_wp2_with fail
          refine (H58.out _).mono ?_
          rintro e w1 ⟨rfl, rfl⟩
          go_wp2_with fail
          go_roundg (l.length - (k + 1))
          case measure => omega
          case rel => exact ⟨k + 1, by omega, Nat.le_refl _, by go_num, by rw [HT.out]; exact HP.out, HR.out.2.1.setCell (Nat.le_refl _) _, by rw [HT.out]; exact HF.out⟩
      · have HF := hid (ids_not HX.out hy)
        have HU : Hid (upB y 7 = false) := by show _ = _; rw [Bool.eq_false_iff]; intro e; exact hy (upB_iff.1 e)
        rw [HU.out] at H58
        clear hy
        go_wp2_with fail
        refine (H58.out _).mono ?_
        rintro e w1 ⟨rfl, rfl⟩
        go_wp2_with fail
        go_ret
        exact ⟨by rw [HF.out]; rfl, HR.out.2.1⟩
    · have hlt' : ¬ (k : Int) < (l.length : Int) := by omega
      go_wp2_with fail
      go_ret
      have hr := HR.out
      rw [List.take_of_length_le (by omega)] at hr
      exact ⟨by rw [hr.2.2]; rfl, hr.2.1⟩
end Go.Proofs.YtcffomhcmilcpaaGreat
