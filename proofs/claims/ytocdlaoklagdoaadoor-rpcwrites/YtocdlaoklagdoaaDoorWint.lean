/- What writes ints: folded, appendInt, Int; the document's Int. -/
import Derived.Test.YtocdlaoklagdoaaDoorWcrc
import Derived.Lib.Zigzag
import Derived.Deep.LoopGhost
import Derived.Maps.AppendAt
import Derived.Maps.Range
namespace Go.Proofs.YtocdlaoklagdoaaDoor
open Go.RowKit Go.Maps
set_option linter.unusedSimpArgs false
set_option linter.unusedVariables false
set_option maxRecDepth 100000

theorem hid {p : Prop} (h : p) : Hid p := h
theorem info5 : ∃ i, Tryd.prog.info? 5 = some i ∧ i.zero = some (.int .u8 0) ∧ i.size = 1 ∧ i.bytes = 1 := ⟨_, rfl, rfl, rfl, rfl⟩

theorem cell_new {w1 : World} {cs : Array Value} {t : TypeId} {b : Nat} (hb : b = w1.heap.size) {j : Nat} {u : Value} (hu : cs[j]? = some u) : (w1.alloc (.cells cs t)).cell? ⟨b, j, none⟩ = some u := by
  subst hb
  have h := heap_alloc_new w1 (.cells cs t)
  show (match (w1.alloc (.cells cs t)).heap[w1.heap.size]? with | some (.cells c _ _) => c[j]? | _ => none) = _
  rw [h]
  exact hu
theorem one_cell {w1 : World} {v : Value} {t : TypeId} {b : Nat} (hb : b = w1.heap.size) : ∀ (j : Nat) (u : Value), [v][j]? = some u → (w1.alloc (.cells #[v] t)).cell? ((⟨b, 0, none⟩ : Addr).add j) = some u := fun j u hu => by
  have hadd : (⟨b, 0, none⟩ : Addr).add j = ⟨b, j, none⟩ := by unfold Addr.add; split <;> simp_all
  rw [hadd]
  exact cell_new hb (by simpa using hu)

/-- Bytes as cells. -/
def u8c (l : List UInt8) : List Value := l.map fun b => .int .u8 (b.toNat : Int)
theorem u8c_length (l : List UInt8) : (u8c l).length = l.length := by simp [u8c]
theorem u8c_append (l m : List UInt8) : u8c (l ++ m) = u8c l ++ u8c m := by simp [u8c]

/-- A row of bytes of the call's own, from block B on. -/
def Row (w : World) (B : Nat) (v : Value) (l : List UInt8) : Prop := w.ownsRow B 5 1 v l.length (u8c l)

theorem Row.nil (w : World) (B : Nat) : Row w B (.slice none 0 0) [] := World.ownsRow_nil w B 5 1
theorem Row.alloc {w : World} {B : Nat} {v : Value} {l : List UInt8} (h : Row w B v l) (o : Obj) : Row (w.alloc o) B v l := by
  obtain ⟨h1, h2⟩ := h
  refine ⟨h1, ?_⟩
  rcases h2 with h2 | ⟨g, cap, cur, e, hB, hg, r⟩
  · exact .inl h2
  · refine .inr ⟨g, cap, cur, e, hB, ?_, r⟩
    have : g < w.heap.size := by
      rcases Nat.lt_or_ge g w.heap.size with h | h
      · exact h
      · rw [Array.getElem?_eq_none h] at hg; cases hg
    rw [Below.heap_alloc w o g this]
    exact hg
theorem Row.drew {w : World} {B : Nat} {v : Value} {l : List UInt8} (h : Row w B v l) : Row w.drew B v l := h
theorem Row.base {w : World} {B B' : Nat} {v : Value} {l : List UInt8} (h : Row w B v l) (hB : B' ≤ B) : Row w B' v l := by
  obtain ⟨h1, h2⟩ := h
  refine ⟨h1, ?_⟩
  rcases h2 with h2 | ⟨g, cap, cur, e, hB2, r⟩
  · exact .inl h2
  · exact .inr ⟨g, cap, cur, e, Nat.le_trans hB hB2, r⟩
theorem Row.own {w : World} {B : Nat} {v : Value} {l : List UInt8} (h : Row w B v l) : ∀ k, v.ownBlock = some k → B ≤ k := fun k hk => (World.ownsRow.lt h k hk).1
/-- A row of another call, kept by what turns only from B' on. -/
theorem Row.under {w w' : World} {B B' : Nat} {v : Value} {l : List UInt8} (h : Row w B v l) (hb : Below w.heap.size w w') : Row w' B v l := by
  obtain ⟨h1, h2⟩ := h
  refine ⟨h1, ?_⟩
  rcases h2 with h2 | ⟨g, cap, cur, e, hB, hg, r⟩
  · exact .inl h2
  · refine .inr ⟨g, cap, cur, e, hB, ?_, r⟩
    have : g < w.heap.size := by
      rcases Nat.lt_or_ge g w.heap.size with h | h
      · exact h
      · rw [Array.getElem?_eq_none h] at hg; cases hg
    rw [hb.block g this]
    exact hg
theorem Row.of {w : World} {B : Nat} {v : Value} {l m : List UInt8} (h : w.ownsRow B 5 1 v (l.length + m.length) (u8c l ++ u8c m)) : Row w B v (l ++ m) := by
  unfold Row
  rw [List.length_append, u8c_append]
  exact h

/-- What an append may turn: the row itself; what is new is new. -/
structure Grow (w w' : World) (v v' : Value) : Prop where
  grown : w.grownBy w' v.ownBlock
  own : ∀ q, v'.ownBlock = some q → v.ownBlock = some q ∨ w.heap.size ≤ q
theorem Grow.refl (w : World) (v : Value) : Grow w w v v := ⟨World.grownBy.refl _ _, fun q h => .inl h⟩
theorem Grow.trans {w w1 w2 : World} {v v1 v2 : Value} (h : Grow w w1 v v1) (k : Grow w1 w2 v1 v2) : Grow w w2 v v2 :=
  ⟨h.grown.andThen k.grown (fun j hj => (h.own j hj).symm), fun q hq => by
    rcases k.own q hq with h1 | h1
    · exact h.own q h1
    · exact .inr (Nat.le_trans h.grown.size h1)⟩
theorem Grow.alloc {w w1 : World} {v v1 : Value} (h : Grow w w1 v v1) (O : Obj) : Grow w (w1.alloc O) v v1 :=
  ⟨h.grown.trans (World.grownBy_alloc w1 O _), h.own⟩
/-- A block that is no row's is as it was. -/
theorem Grow.block {w w1 : World} {v v1 : Value} (h : Grow w w1 v v1) {q : Nat} (hq : q < w.heap.size) (hv : v.ownBlock ≠ some q) : w1.heap[q]? = w.heap[q]? ∧ v1.ownBlock ≠ some q ∧ q < w1.heap.size :=
  ⟨h.grown.block q hq (fun e => hv e.symm), fun e => by
    rcases h.own q e with h1 | h1
    · exact hv h1
    · omega, Nat.lt_of_lt_of_le hq h.grown.size⟩
theorem Grow.step {w wr w2 : World} {v0 v v' : Value} (h : Grow w wr v0 v) (O : Obj) (hg : (wr.alloc O).grownBy w2 v.ownBlock) (hat : v'.ownBlock = v.ownBlock ∨ v'.ownBlock = some (wr.alloc O).heap.size) : Grow w w2 v0 v' :=
  (h.alloc O).trans ⟨hg, fun q hq => by
    rcases hat with h1 | h1
    · exact .inl (h1 ▸ hq)
    · rw [h1] at hq; cases hq; exact .inr (Nat.le_refl _)⟩

/- Ints as digits. -/
theorem not_neg (n : Int) (h1 : -9223372036854775808 ≤ n) (h2 : n < 0) : bits .xor .i64 (-1) n = -1 - n := by
  show IntKind.i64.wrap ((BitVec.ofInt 64 (-1) ^^^ BitVec.ofInt 64 n).toNat : Int) = _
  have e1 : (BitVec.ofInt 64 (-1)).toNat = 2 ^ 64 - 1 := by decide
  have e2 : (BitVec.ofInt 64 n).toNat = (n + 18446744073709551616).toNat := by
    rw [BitVec.toNat_ofInt]
    have : (n % ((2 ^ 64 : Nat) : Int)) = n + 18446744073709551616 := by
      rw [show ((2 ^ 64 : Nat) : Int) = 18446744073709551616 by rfl]; omega
    rw [this]
  rw [BitVec.toNat_xor, e1, e2, Lib.xor_ones64 _ (by omega), IntKind.wrap_i64]
  omega

set_option maxHeartbeats 400000 in
theorem folded_any (n : Int) (w : World) (h : I64 n) : Calls Tryd.prog 93 #[.int .i64 n] w fun e w' => e = .returned (.int .u64 ((zz n : Nat) : Int)) ∧ w = w' := by
  obtain ⟨h1, h2⟩ := h
  by_cases hn : n < 0
  · have hx := not_neg n h1 hn
    have hor := u64_or_nat (2 * (-(n + 1)).toNat) 1 (by omega) (by omega)
    have ej : 2 * (-(n + 1)).toNat ||| 1 = 2 * (-(n + 1)).toNat + 1 := nat_join 1 _ 1 (by omega) (by omega)
    rw [ej] at hor
    have hz : zz n = 2 * (-(n + 1)).toNat + 1 := by unfold zz; rw [if_pos hn]
    rw [← hz] at hor
    have hor2 : bits .or .u64 ((-1 - n) * 2) 1 = ((zz n : Nat) : Int) := by
      rw [← hor]
      congr 1
      omega
    have hwr : IntKind.u64.wrap (IntKind.u64.wrap (-1 - n) * 2) = (-1 - n) * 2 := by rw [IntKind.wrap_u64, IntKind.wrap_u64]; omega
    have H : Hid (bits .or .u64 (IntKind.u64.wrap (IntKind.u64.wrap (-1 - n) * 2)) 1 = ((zz n : Nat) : Int)) := by show _ = _; rw [hwr, hor2]
    clear ej hor hz hor2 hwr
    go_enter Tryd.func93, Tryd.ntmps93
    go_wp2
    go_ret
    exact ⟨ret_int H.out, rfl⟩
  · have hz : ((zz n : Nat) : Int) = n * 2 := by unfold zz; rw [if_neg hn]; omega
    have H := hid hz
    clear hz
    go_enter Tryd.func93, Tryd.ntmps93
    go_wp2
    go_ret
    exact ⟨ret_int H.out.symm, rfl⟩

set_option maxHeartbeats 400000 in
theorem unfolded_any (z : Nat) (w : World) (h : z < 18446744073709551616) : Calls Tryd.prog 89 #[.int .u64 (z : Int)] w fun e w' => e = .returned (.int .i64 (unzz z)) ∧ w = w' := by
  have ha := u64_and_nat z 1 h (by omega)
  rw [nat_mask1, show (((1 : Nat) : Int)) = 1 by rfl] at ha
  by_cases hz : z % 2 = 1
  · have hx := Lib.i64_not (z / 2) (by omega)
    rw [show (((z / 2 : Nat) : Int)) = (z : Int) / 2 by omega] at hx
    rw [hz] at ha
    have ha' : bits .and .u64 (z : Int) 1 = 1 := ha
    have H : Hid (unzz z = -((z : Int) / 2) - 1) := by show _ = _; unfold unzz; rw [if_pos hz]; omega
    clear ha
    go_enter Tryd.func89, Tryd.ntmps89
    go_wp2
    go_ret
    exact ⟨ret_int H.out.symm, rfl⟩
  · have hz0 : z % 2 = 0 := by omega
    rw [hz0] at ha
    have ha' : bits .and .u64 (z : Int) 1 = 0 := ha
    have H : Hid (unzz z = (z : Int) / 2) := by show _ = _; unfold unzz; rw [if_neg hz]; omega
    clear ha
    go_enter Tryd.func89, Tryd.ntmps89
    go_wp2
    go_ret
    exact ⟨ret_int H.out.symm, rfl⟩

theorem or128 : ∀ x : Nat, x < 256 → x ||| 128 = x % 128 + 128 := by decide
theorem bits_or128 (z : Nat) : bits .or .u8 ((z : Int) % 256) 128 = ((z % 128 + 128 : Nat) : Int) := by
  have h := u8_or_nat (z % 256) 128 (by omega) (by omega)
  rw [or128 _ (by omega), show (((128 : Nat) : Int)) = 128 by rfl] at h
  rw [show (z : Int) % 256 = ((z % 256 : Nat) : Int) by omega, h]
  omega

theorem digs_small (f z : Nat) (h : z < 128) : digs f z = [UInt8.ofNat z] := by
  cases f with
  | zero => rfl
  | succ f => simp only [digs, if_pos h]
theorem digs_more (k z : Nat) (hk : k < 9) (h : ¬ z < 128) : digs (9 - k) z = UInt8.ofNat (z % 128 + 128) :: digs (9 - (k + 1)) (z / 128) := by
  rw [show 9 - k = (9 - (k + 1)) + 1 by omega]
  simp only [digs, if_neg h]
theorem pow_down (k z : Nat) (hk : k < 9) (h : z < 2 * 128 ^ (9 - k)) : z / 128 < 2 * 128 ^ (9 - (k + 1)) := by
  rw [show 9 - k = (9 - (k + 1)) + 1 by omega, Nat.pow_succ] at h
  omega

/-- Where appendInt stands behind k digits. -/
structure IntAt (w : World) (B : Nat) (v0 : Value) (t : List UInt8) (k z : Nat) (m : List UInt8) (v : Value) (wr : World) : Prop where
  row : Row wr B v m
  len : m.length ≤ t.length
  all : m ++ digs (9 - k) z = t
  small : z < 2 * 128 ^ (9 - k)
  below : Below B w wr
  grow : Grow w wr v0 v

theorem IntAt.next {w : World} {B : Nat} {v0 : Value} {t : List UInt8} {k z : Nat} {m : List UInt8} {v : Value} {wr : World} (h : IntAt w B v0 t k z m v wr) (hB : B ≤ w.heap.size) (hk : k < 9) (hz : ¬ z < 128) (x : Int) (hx : x = ((z % 128 + 128 : Nat) : Int)) (O : Obj) (v' : Value) (w2 : World)
    (hown : w2.ownsRow B 5 1 v' (m.length + 1) (u8c m ++ [.int .u8 x])) (hg : (wr.alloc O).grownBy w2 v.ownBlock) (hat : v'.ownBlock = v.ownBlock ∨ v'.ownBlock = some (wr.alloc O).heap.size) : IntAt w B v0 t (k + 1) (z / 128) (m ++ [UInt8.ofNat (z % 128 + 128)]) v' w2 := by
  have hsz := h.below.size
  have hd := digs_more k z hk hz
  have hall := h.all
  rw [hd] at hall
  refine ⟨?_, ?_, ?_, pow_down k z hk h.small, ?_, h.grow.step O hg hat⟩
  · refine Row.of (l := m) (m := [UInt8.ofNat (z % 128 + 128)]) ?_
    have e : u8c [UInt8.ofNat (z % 128 + 128)] = [.int .u8 x] := by
      subst hx
      simp [u8c, toNat_u8 (z % 128 + 128) (by omega)]
      omega
    rw [e]
    exact hown
  · rw [← hall]; simp
  · rw [← hall]; simp
  · exact (h.below.alloc (by omega) O).grown hg (by simp; omega) h.row.own

theorem IntAt.last {w : World} {B : Nat} {v0 : Value} {t : List UInt8} {k z : Nat} {m : List UInt8} {v : Value} {wr : World} (h : IntAt w B v0 t k z m v wr) (hB : B ≤ w.heap.size) (hz : z < 128) (O : Obj) (v' : Value) (w2 : World)
    (hown : w2.ownsRow B 5 1 v' (m.length + 1) (u8c m ++ [.int .u8 (z : Int)])) (hg : (wr.alloc O).grownBy w2 v.ownBlock) (hat : v'.ownBlock = v.ownBlock ∨ v'.ownBlock = some (wr.alloc O).heap.size) : Row w2 B v' t ∧ Below B w w2 ∧ Grow w w2 v0 v' := by
  have hsz := h.below.size
  have hall := h.all
  rw [digs_small _ z hz] at hall
  refine ⟨?_, (h.below.alloc (by omega) O).grown hg (by simp; omega) h.row.own, h.grow.step O hg hat⟩
  rw [← hall]
  refine Row.of (l := m) (m := [UInt8.ofNat z]) ?_
  have e : u8c [UInt8.ofNat z] = [.int .u8 (z : Int)] := by
    simp [u8c, toNat_u8 z (by omega)]
  rw [e]
  exact hown

set_option maxHeartbeats 1600000 in
theorem appendInt_any {w : World} {B : Nat} {v : Value} {l : List UInt8} (h : Row w B v l) (hB : B ≤ w.heap.size) (hl : l.length ≤ 1000000000000) (n : Int) (hn : I64 n) :
    Calls Tryd.prog 85 #[v, .int .i64 n] w fun e w' => ∃ v', e = .returned v' ∧ Row w' B v' (l ++ intL n) ∧ Below B w w' ∧ Grow w w' v v' := by
  obtain ⟨i0, hi0, hz0, hz1, hz2⟩ := info5
  have hz := zz_lt n hn.1 hn.2
  have H0 : Hid (IntAt w B v (l ++ intL n) 0 (zz n) l v w) := ⟨h, by simp, rfl, hz, .refl _ _, .refl _ _⟩
  have htl : Hid ((l ++ intL n).length ≤ 1000000000010) := by show _ ≤ _; have := intL_length n; simp; omega
  clear h
  go_enter Tryd.func85, Tryd.ntmps85
  go_wp2_with (go_at_call 93; refine (folded_any n _ hn).mono ?_; rintro e w' ⟨rfl, rfl⟩)
  go_loopg [0, 5, 8] 9 (fun kx s0 s5 s8 wr => ∃ (k z : Nat) (sv : Value) (m : List UInt8), k ≤ 9 ∧ 9 - k ≤ kx ∧ s8 = .int .i64 k ∧ s5 = .int .u64 z ∧ sv = s0 ∧ Hid (IntAt w B v (l ++ intL n) k z m sv wr))
  case atStart => exact ⟨0, _, _, l, by omega, by omega, rfl, rfl, rfl, H0⟩
  case round =>
    obtain ⟨k, z, sv, m, hk, hkx, rfl, rfl, rfl, HD⟩ := hrel
    have hml : m.length ≤ 1000000000010 := Nat.le_trans HD.out.len htl.out
    have hwr : B ≤ wr.heap.size := Nat.le_trans hB HD.out.below.size
    have HR : Hid (∀ O, (wr.alloc O).ownsRow B 5 1 sv m.length (u8c m)) := fun O => HD.out.row.alloc O
    clear H0 htl
    by_cases hlt : k < 9
    · have hlt' : (k : Int) < 9 := by omega
      by_cases hzs : z < 128
      · have hzs' : (z : Int) < 128 := by omega
        go_wp2_with (at_builtin; refine wpList_append_own_at _ rfl _ _ 43 rfl B 5 i0 _ 1 1 Tryd.underlying43 hi0 hz0 hz1 hz2 rfl (by decide) _ m.length (u8c m) rfl (HR.out _) ⟨wr.heap.size, 0, none⟩ 1 1 [.int .u8 (z : Int)] rfl rfl (one_cell rfl) (by simp [Value.oneCell']) (by unfold maxLen; omega) (by omega) (by simp; omega) ?_; intro v' w2 hown2 hg2 _ hat)
        have HF := HD.out.last hB hzs _ v' w2 hown2 hg2 hat
        go_ret
        exact ⟨_, rfl, HF.1, HF.2⟩
      · have hzs' : ¬ (z : Int) < 128 := by omega
        have hor := bits_or128 z
        generalize hX : ((z % 128 + 128 : Nat) : Int) = X at hor
        go_wp2_with (at_builtin; refine wpList_append_own_at _ rfl _ _ 43 rfl B 5 i0 _ 1 1 Tryd.underlying43 hi0 hz0 hz1 hz2 rfl (by decide) _ m.length (u8c m) rfl (HR.out _) ⟨wr.heap.size, 0, none⟩ 1 1 [.int .u8 X] rfl rfl (one_cell rfl) (by simp [Value.oneCell']) (by unfold maxLen; omega) (by omega) (by simp; omega) ?_; intro v' w2 hown2 hg2 _ hat)
        have HF := HD.out.next hB hlt hzs X hX.symm _ v' w2 hown2 hg2 hat
        go_roundg (9 - (k + 1))
        case measure => omega
        case rel => exact ⟨k + 1, z / 128, v', _, by omega, Nat.le_refl _, by go_num, by go_num, rfl, HF⟩
    · have hk9 : k = 9 := by omega
      have hzs : z < 128 := by have := HD.out.small; rw [hk9] at this; simp at this; omega
      have hlt' : ¬ (k : Int) < 9 := by omega
      have hzs' : (z : Int) < 128 := by omega
      clear hk9
      go_wp2_with (at_builtin; refine wpList_append_own_at _ rfl _ _ 43 rfl B 5 i0 _ 1 1 Tryd.underlying43 hi0 hz0 hz1 hz2 rfl (by decide) _ m.length (u8c m) rfl (HR.out _) ⟨wr.heap.size, 0, none⟩ 1 1 [.int .u8 (z : Int)] rfl rfl (one_cell rfl) (by simp [Value.oneCell']) (by unfold maxLen; omega) (by omega) (by simp; omega) ?_; intro v' w2 hown2 hg2 _ hat)
      have HF := HD.out.last hB hzs _ v' w2 hown2 hg2 hat
      go_ret
      exact ⟨_, rfl, HF.1, HF.2⟩

end Go.Proofs.YtocdlaoklagdoaaDoor
