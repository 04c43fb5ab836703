/- Bytes as strings; Int of both; four bytes. -/
import Derived.Test.YtocdlaoklagdoaaDoorWint
namespace Go.Proofs.YtocdlaoklagdoaaDoor
open Go.RowKit Go.Maps
set_option linter.unusedSimpArgs false
set_option linter.unusedVariables false
set_option maxRecDepth 100000

def strOf (bs : List UInt8) : ByteArray := ⟨bs.toArray⟩
theorem strOf_size (l : List UInt8) : (strOf l).size = l.length := by simp [strOf, ByteArray.size]
theorem strOf_data (l : List UInt8) : (strOf l).data.toList = l := by simp [strOf]
theorem strOf_eq (s : ByteArray) : strOf s.data.toList = s := by simp [strOf]

theorem strOfNums_u8 (bs : List UInt8) : strOfNums (bs.map fun b => (b.toNat : Int)) = strOf bs := by
  have e : bs.map (fun b : UInt8 => UInt8.ofNat ((b.toNat : Int).toNat)) = bs := by
    induction bs with
    | nil => rfl
    | cons x r ih => simp only [List.map_cons, ih]; simp
  simp only [strOfNums, strOf, List.map_map, Function.comp_def, e]

theorem Row.conv {w : World} {B : Nat} {v : Value} {l : List UInt8} (h : Row w B v l) : (convert 43 9 v).run Tryd.prog w = .ok (.string (strOf l)) w := by
  obtain ⟨h1, h2⟩ := h
  rcases h2 with ⟨rfl, hn⟩ | ⟨g, cap, cur, rfl, hB, hg, hc, hm, hs, ht⟩
  · have : l = [] := List.eq_nil_of_length_eq_zero hn
    subst this
    exact run_convert_bytes_nil w 43 5 Tryd.underlying43 Tryd.underlying5 _ _ 9 Tryd.underlying9
  · have := run_convert_bytes_arg w 43 5 Tryd.underlying43 Tryd.underlying5 g 0 l.length cap (l.map fun b => (b.toNat : Int)) (by simp) (fun i hi => by
      have h1 : (cur.toList.take (l.length * 1))[i]? = (u8c l)[i]? := by rw [ht]
      have h2 : (u8c l)[i]? = some (.int .u8 (l[i].toNat : Int)) := by simp [u8c, hi]
      rw [h2, List.getElem?_take, if_pos (by omega)] at h1
      simp only [World.cell?, Nat.zero_add, hg]
      simpa [hi] using h1) 9 Tryd.underlying9
    rw [this, strOfNums_u8]
theorem Row.shape {w : World} {B : Nat} {v : Value} {l : List UInt8} (h : Row w B v l) : ∃ a cap, v = .slice a l.length cap := by
  obtain ⟨h1, h2⟩ := h
  rcases h2 with ⟨rfl, hn⟩ | ⟨g, cap, cur, rfl, hB, hg, hc, hm, hs, ht⟩
  · exact ⟨_, _, by rw [hn]⟩
  · exact ⟨_, _, rfl⟩

set_option maxHeartbeats 400000 in
theorem int_any (n : Int) (w : World) (hn : I64 n) : Calls Tryd.prog 70 #[.int .i64 n] w fun e w' => e = .returned (.string (strOf (intL n))) ∧ Below w.heap.size w w' := by
  have HC := hid (appendInt_any (Row.nil w w.heap.size) (Nat.le_refl _) (by simp) n hn)
  go_enter Tryd.func70, Tryd.ntmps70
  go_wp2_with (go_at_call 85; refine HC.out.mono ?_; rintro e w1 ⟨v', rfl, hrow, hb, _⟩; rw [List.nil_append] at hrow; have hcv := hrow.conv; obtain ⟨a, cap, hv⟩ := hrow.shape; rw [hv] at hcv ⊢)
  go_ret
  exact ⟨rfl, hb⟩

/-- The document's way to the number. -/
theorem rz_neg (n : Int) (h1 : -9223372036854775808 ≤ n) (h2 : n < 0) : 2 * (-(n + 1)) + 1 = ((zz n : Nat) : Int) := by unfold zz; rw [if_pos h2]; omega
theorem rz_pos (n : Int) (h2 : ¬ n < 0) : 2 * n = ((zz n : Nat) : Int) := by unfold zz; rw [if_neg h2]; omega

theorem digs_zero (z : Nat) (f : Nat) (h : z < 2 * 128 ^ f) (hz : ¬ z < 128) : f ≠ 0 := by
  intro e; subst e; simp at h; omega

theorem IntAt.lt64 {w : World} {B : Nat} {v0 : Value} {t : List UInt8} {k z : Nat} {m : List UInt8} {v : Value} {wr : World} (h : IntAt w B v0 t k z m v wr) : z < 18446744073709551616 := by
  have h1 := h.small
  have h2 : 128 ^ (9 - k) ≤ 128 ^ 9 := Nat.pow_le_pow_right (by omega) (by omega)
  have h3 : (128 : Nat) ^ 9 = 9223372036854775808 := by decide
  omega

set_option maxHeartbeats 1600000 in
theorem rint_any (n : Int) (w : World) (hn : I64 n) : Calls Tryd.prog 34 #[.int .i64 n] w fun e w' => e = .returned (.string (strOf (intL n))) ∧ Below w.heap.size w w' := by
  obtain ⟨i0, hi0, hz0, hz1, hz2⟩ := info5
  have hz := zz_lt n hn.1 hn.2
  have H0 : Hid (IntAt w w.heap.size (.slice none 0 0) (intL n) 0 (zz n) [] (.slice none 0 0) w) := ⟨Row.nil _ _, by simp, rfl, hz, .refl _ _, .refl _ _⟩
  have htl : Hid ((intL n).length ≤ 10) := (intL_length n).2
  obtain ⟨h1, h2⟩ := hn
  by_cases hneg : n < 0
  · go_enter Tryd.func34, Tryd.ntmps34
    go_wp2
    go_loopg [3, 4] 10 (fun kx s3 s4 wr => ∃ (k z : Nat) (sv : Value) (m : List UInt8), k ≤ 9 ∧ 10 - k ≤ kx ∧ s3 = .int .u64 z ∧ sv = s4 ∧ Hid (IntAt w w.heap.size (.slice none 0 0) (intL n) k z m sv wr))
    case atStart => exact ⟨0, zz n, _, [], by omega, by omega, by rw [rz_neg n h1 hneg], rfl, H0⟩
    case round =>
      obtain ⟨k, z, sv, m, hk, hkx, rfl, rfl, HD⟩ := hrel
      have hml : m.length ≤ 10 := Nat.le_trans HD.out.len htl.out
      have hwr : w.heap.size ≤ wr.heap.size := HD.out.below.size
      have HR : Hid (∀ O, (wr.alloc O).ownsRow w.heap.size 5 1 sv m.length (u8c m)) := fun O => HD.out.row.alloc O
      clear H0 htl
      by_cases hzs : z < 128
      · have hzs' : ¬ 128 ≤ (z : Int) := by omega
        go_wp2_with (at_builtin; refine wpList_append_own_at _ rfl _ _ 43 rfl w.heap.size 5 i0 _ 1 1 Tryd.underlying43 hi0 hz0 hz1 hz2 rfl (by decide) _ m.length (u8c m) rfl (HR.out _) ⟨wr.heap.size, 0, none⟩ 1 1 [.int .u8 (z : Int)] rfl rfl (one_cell rfl) (by simp [Value.oneCell']) (by unfold maxLen; omega) (by omega) (by simp; omega) ?_; intro v' w2 hown2 hg2 _ hat; have HF := HD.out.last (Nat.le_refl _) hzs _ v' w2 hown2 hg2 hat; have hcv := HF.1.conv; obtain ⟨a, cap, hv⟩ := HF.1.shape; rw [hv] at hcv ⊢)
        go_ret
        exact ⟨rfl, HF.2.1⟩
      · have hzs' : 128 ≤ (z : Int) := by omega
        have hk9 : k < 9 := by
          rcases Nat.lt_or_ge k 9 with h | h
          · exact h
          · have := HD.out.small; rw [show 9 - k = 0 by omega] at this; simp at this; omega
        have hz64 : (z : Int) < 18446744073709551616 := by have := HD.out.lt64; omega
        have hX : Hid ((z : Int) % 128 + 128 = ((z % 128 + 128 : Nat) : Int)) := by show _ = _; omega
        go_wp2_with (at_builtin; refine wpList_append_own_at _ rfl _ _ 43 rfl w.heap.size 5 i0 _ 1 1 Tryd.underlying43 hi0 hz0 hz1 hz2 rfl (by decide) _ m.length (u8c m) rfl (HR.out _) ⟨wr.heap.size, 0, none⟩ 1 1 [.int .u8 ((z : Int) % 128 + 128)] rfl rfl (one_cell rfl) (by simp [Value.oneCell']) (by unfold maxLen; omega) (by omega) (by simp; omega) ?_; intro v' w2 hown2 hg2 _ hat)
        have HF := HD.out.next (Nat.le_refl _) hk9 hzs _ hX.out _ v' w2 hown2 hg2 hat
        go_roundg (10 - (k + 1))
        case measure => omega
        case rel => exact ⟨k + 1, z / 128, v', _, by omega, Nat.le_refl _, by go_num, rfl, HF⟩
  · go_enter Tryd.func34, Tryd.ntmps34
    go_wp2
    go_loopg [3, 4] 10 (fun kx s3 s4 wr => ∃ (k z : Nat) (sv : Value) (m : List UInt8), k ≤ 9 ∧ 10 - k ≤ kx ∧ s3 = .int .u64 z ∧ sv = s4 ∧ Hid (IntAt w w.heap.size (.slice none 0 0) (intL n) k z m sv wr))
    case atStart => exact ⟨0, zz n, _, [], by omega, by omega, by rw [rz_pos n (by omega)], rfl, H0⟩
    case round =>
      obtain ⟨k, z, sv, m, hk, hkx, rfl, rfl, HD⟩ := hrel
      have hml : m.length ≤ 10 := Nat.le_trans HD.out.len htl.out
      have hwr : w.heap.size ≤ wr.heap.size := HD.out.below.size
      have HR : Hid (∀ O, (wr.alloc O).ownsRow w.heap.size 5 1 sv m.length (u8c m)) := fun O => HD.out.row.alloc O
      clear H0 htl
      by_cases hzs : z < 128
      · have hzs' : ¬ 128 ≤ (z : Int) := by omega
        go_wp2_with (at_builtin; refine wpList_append_own_at _ rfl _ _ 43 rfl w.heap.size 5 i0 _ 1 1 Tryd.underlying43 hi0 hz0 hz1 hz2 rfl (by decide) _ m.length (u8c m) rfl (HR.out _) ⟨wr.heap.size, 0, none⟩ 1 1 [.int .u8 (z : Int)] rfl rfl (one_cell rfl) (by simp [Value.oneCell']) (by unfold maxLen; omega) (by omega) (by simp; omega) ?_; intro v' w2 hown2 hg2 _ hat; have HF := HD.out.last (Nat.le_refl _) hzs _ v' w2 hown2 hg2 hat; have hcv := HF.1.conv; obtain ⟨a, cap, hv⟩ := HF.1.shape; rw [hv] at hcv ⊢)
        go_ret
        exact ⟨rfl, HF.2.1⟩
      · have hzs' : 128 ≤ (z : Int) := by omega
        have hk9 : k < 9 := by
          rcases Nat.lt_or_ge k 9 with h | h
          · exact h
          · have := HD.out.small; rw [show 9 - k = 0 by omega] at this; simp at this; omega
        have hz64 : (z : Int) < 18446744073709551616 := by have := HD.out.lt64; omega
        have hX : Hid ((z : Int) % 128 + 128 = ((z % 128 + 128 : Nat) : Int)) := by show _ = _; omega
        go_wp2_with (at_builtin; refine wpList_append_own_at _ rfl _ _ 43 rfl w.heap.size 5 i0 _ 1 1 Tryd.underlying43 hi0 hz0 hz1 hz2 rfl (by decide) _ m.length (u8c m) rfl (HR.out _) ⟨wr.heap.size, 0, none⟩ 1 1 [.int .u8 ((z : Int) % 128 + 128)] rfl rfl (one_cell rfl) (by simp [Value.oneCell']) (by unfold maxLen; omega) (by omega) (by simp; omega) ?_; intro v' w2 hown2 hg2 _ hat)
        have HF := HD.out.next (Nat.le_refl _) hk9 hzs _ hX.out _ v' w2 hown2 hg2 hat
        go_roundg (10 - (k + 1))
        case measure => omega
        case rel => exact ⟨k + 1, z / 128, v', _, by omega, Nat.le_refl _, by go_num, rfl, HF⟩

end Go.Proofs.YtocdlaoklagdoaaDoor
