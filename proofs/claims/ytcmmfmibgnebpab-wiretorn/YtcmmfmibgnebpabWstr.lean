/- Bytes as strings; Int of both; four bytes. -/
import Derived.Test.YtcmmfmibgnebpabWint
namespace Go.Proofs.Ytcmmfmibgnebpab
open Go.RowKit Go.Maps
set_option linter.unusedSimpArgs false
set_option linter.unusedVariables false
set_option maxRecDepth 100000

def strOf (bs : List UInt8) : ByteArray := ⟨bs.toArray⟩
theorem strOf_size (l : List UInt8) : (strOf l).size = l.length := by simp [strOf, ByteArray.size]
theorem strOf_data (l : List UInt8) : (strOf l).data.toList = l := by simp [strOf]
theorem strOf_eq (s : ByteArray) : strOf s.data.toList = s := by simp [strOf]

theorem strOfNums_u8 (bs : List UInt8) : strOfNums (bs.map fun b => (b.toNat : Int)) = strOf bs := by
  have e : bs.map (fun b : UInt8 => UInt8.ofNat ((b.toNat : Int).toNat)) = bs := by
    induction bs with
    | nil => rfl
    | cons x r ih => simp only [List.map_cons, ih]; simp
  simp only [strOfNums, strOf, List.map_map, Function.comp_def, e]

theorem Row.conv {w : World} {B : Nat} {v : Value} {l : List UInt8} (h : Row w B v l) : (convert 32 9 v).run Try.prog w = .ok (.string (strOf l)) w := by
  obtain ⟨h1, h2⟩ := h
  rcases h2 with ⟨rfl, hn⟩ | ⟨g, cap, cur, rfl, hB, hg, hc, hm, hs, ht⟩
  · have : l = [] := List.eq_nil_of_length_eq_zero hn
    subst this
    exact run_convert_bytes_nil w 32 5 Try.underlying32 Try.underlying5 _ _ 9 Try.underlying9
  · have := run_convert_bytes_arg w 32 5 Try.underlying32 Try.underlying5 g 0 l.length cap (l.map fun b => (b.toNat : Int)) (by simp) (fun i hi => by
      have h1 : (cur.toList.take (l.length * 1))[i]? = (u8c l)[i]? := by rw [ht]
      have h2 : (u8c l)[i]? = some (.int .u8 (l[i].toNat : Int)) := by simp [u8c, hi]
      rw [h2, List.getElem?_take, if_pos (by omega)] at h1
      simp only [World.cell?, Nat.zero_add, hg]
      simpa [hi] using h1) 9 Try.underlying9
    rw [this, strOfNums_u8]
theorem Row.shape {w : World} {B : Nat} {v : Value} {l : List UInt8} (h : Row w B v l) : ∃ a cap, v = .slice a l.length cap := by
  obtain ⟨h1, h2⟩ := h
  rcases h2 with ⟨rfl, hn⟩ | ⟨g, cap, cur, rfl, hB, hg, hc, hm, hs, ht⟩
  · exact ⟨_, _, by rw [hn]⟩
  · exact ⟨_, _, rfl⟩

set_option maxHeartbeats 400000 in
theorem int_any (n : Int) (w : World) (hn : I64 n) : Calls Try.prog 11 #[.int .i64 n] w fun e w' => e = .returned (.string (strOf (intL n))) ∧ Below w.heap.size w w' := by
  have HC := hid (appendInt_any (Row.nil w w.heap.size) (Nat.le_refl _) (by simp) n hn)
  go_enter Try.func11, Try.ntmps11
  go_wp2_with (go_at_call 18; refine HC.out.mono ?_; rintro e w1 ⟨v', rfl, hrow, hb, _⟩; rw [List.nil_append] at hrow; have hcv := hrow.conv; obtain ⟨a, cap, hv⟩ := hrow.shape; rw [hv] at hcv ⊢)
  go_ret
  exact ⟨rfl, hb⟩

/-- The document's way to the number. -/
theorem rz_neg (n : Int) (h1 : -9223372036854775808 ≤ n) (h2 : n < 0) : 2 * (-(n + 1)) + 1 = ((zz n : Nat) : Int) := by unfold zz; rw [if_pos h2]; omega
theorem rz_pos (n : Int) (h2 : ¬ n < 0) : 2 * n = ((zz n : Nat) : Int) := by unfold zz; rw [if_neg h2]; omega

theorem digs_zero (z : Nat) (f : Nat) (h : z < 2 * 128 ^ f) (hz : ¬ z < 128) : f ≠ 0 := by
  intro e; subst e; simp at h; omega

theorem IntAt.lt64 {w : World} {B : Nat} {v0 : Value} {t : List UInt8} {k z : Nat} {m : List UInt8} {v : Value} {wr : World} (h : IntAt w B v0 t k z m v wr) : z < 18446744073709551616 := by
  have h1 := h.small
  have h2 : 128 ^ (9 - k) ≤ 128 ^ 9 := Nat.pow_le_pow_right (by omega) (by omega)
  have h3 : (128 : Nat) ^ 9 = 9223372036854775808 := by decide
  omega

end Go.Proofs.Ytcmmfmibgnebpab
