/- What the two checksums do. -/
import Derived.Test.YtcffomhcmilcpaaGreatRows
import Derived.Test.YtcffomhcmilcpaaGreatL0
import Derived.WalkKit
import Derived.WalkSpells
import Derived.WalkLawsBesides
import Derived.Laws.BitsAll
import Derived.Lib.Zigzag
import Derived.Deep.LoopGhost
import Derived.Maps.AppendAt
import Derived.Maps.Range
import Derived.Deep.QuietTactic
import Derived.BigQuiet
namespace Go.Proofs.YtcffomhcmilcpaaGreat.W
open Go.RowKit Go.Maps
set_option linter.unusedSimpArgs false
set_option linter.unusedVariables false
set_option maxRecDepth 100000

theorem ret_int {k : IntKind} {a b : Int} (h : a = b) : Ending.returned (.int k a) = .returned (.int k b) := by rw [h]
theorem ret_bool {a b : Bool} (h : a = b) : Ending.returned (.bool a) = .returned (.bool b) := by rw [h]

theorem take_snoc (s : ByteArray) (k : Nat) (h : k < s.size) : s.data.toList.take (k + 1) = s.data.toList.take k ++ [s[k]] := by
  rw [List.take_succ_eq_append_getElem (by simpa using h)]; rfl

set_option maxHeartbeats 400000 in
theorem crc_any (s : ByteArray) (w : World) (hs : s.size ≤ maxLen) :
    Calls Tryz.prog 87 #[.string s] w fun e w' => e = .returned (.int .i64 (crcL s.data.toList : Nat)) ∧ w = w' := by
  unfold maxLen at hs
  go_enter Tryz.func87, Tryz.ntmps87
  go_wp2
  go_loop [3, 8] (fun c i => ∃ k : Nat, k ≤ s.size ∧ i = .int .i64 k ∧ c = .int .u32 ((crcRun 4294967295 (s.data.toList.take k) : Nat) : Int)) (fun _ i => s.size - (intOf i).toNat)
  case atStart => exact ⟨0, Nat.zero_le _, rfl, rfl⟩
  case round =>
    obtain ⟨k, hk, rfl, rfl⟩ := hrel
    have hc := crcRun_lt (s.data.toList.take k) 4294967295 (by omega)
    by_cases hlt : k < s.size
    · have hsn : Hid (crcRun 4294967295 (s.data.toList.take (k + 1)) = crcByte (crcRun 4294967295 (s.data.toList.take k)) s[k]) := by show _ = _; rw [take_snoc s k hlt, crcRun_snoc]
      generalize hC : crcRun 4294967295 (s.data.toList.take k) = C at *
      have hb := s[k].toNat_lt
      have hx := u32_xor_nat C s[k].toNat hc (by omega)
      clear hC
      go_wp2
      have hX := xor_lt C s[k].toNat hc (by omega)
      go_loop [3, 17] (fun c j => ∃ m : Nat, m ≤ 8 ∧ j = .int .i64 m ∧ c = .int .u32 ((crcBits m (C ^^^ s[k].toNat) : Nat) : Int)) (fun _ j => 8 - (intOf j).toNat)
      case atStart => exact ⟨0, Nat.zero_le _, rfl, rfl⟩
      case round =>
        obtain ⟨m, hm, rfl, rfl⟩ := hrel
        have hD := crcBits_lt (C ^^^ s[k].toNat) hX m
        by_cases hm8 : m < 8
        · have hst : Hid (crcBits (m + 1) (C ^^^ s[k].toNat) = crcBit (crcBits m (C ^^^ s[k].toNat))) := rfl
          clear hx
          generalize crcBits m (C ^^^ s[k].toNat) = D at *
          have hh := u32_xor_nat (D / 2) 2197175160 (by omega) (by omega)
          rw [show (((D / 2 : Nat) : Int)) = (D : Int) / 2 by omega, show (((2197175160 : Nat) : Int)) = 2197175160 by rfl] at hh
          have hm8' : (m : Int) < 8 := by omega
          by_cases hodd : D % 2 = 1
          · have hst2 : Hid (crcBits (m + 1) (C ^^^ s[k].toNat) = (D / 2) ^^^ 2197175160) := by show _ = _; rw [hst.out, crcBit, if_pos hodd]
            have ha : bits .and .u32 (D : Int) 1 = 1 := by have := u32_and_nat D 1 (by omega) (by omega); rw [nat_mask1] at this; rw [show (((1 : Nat) : Int)) = 1 by rfl] at this; rw [this]; omega
            go_wp2
            go_round
            case rel => exact ⟨m + 1, by omega, by go_num, by rw [hst2.out]⟩
            case measure => simp [intOf]; omega
          · have hst2 : Hid (crcBits (m + 1) (C ^^^ s[k].toNat) = D / 2) := by show _ = _; rw [hst.out, crcBit, if_neg hodd]
            have ha : bits .and .u32 (D : Int) 1 = 0 := by have := u32_and_nat D 1 (by omega) (by omega); rw [nat_mask1] at this; rw [show (((1 : Nat) : Int)) = 1 by rfl] at this; rw [this]; omega
            go_wp2
            go_round
            case rel => exact ⟨m + 1, by omega, by go_num, by rw [hst2.out]; go_num⟩
            case measure => simp [intOf]; omega
        · have hm8' : ¬ (m : Int) < 8 := by omega
          have hm9 : m = 8 := by omega
          subst hm9
          go_wp2
          go_round
          case rel => exact ⟨k + 1, by omega, by go_num, by rw [hsn.out]; rfl⟩
          case measure => simp [intOf]; omega
    · have he : s.data.toList.take k = s.data.toList := List.take_of_length_le (by simp; omega)
      have hx : bits .xor .u32 IntKind.u32.max ((crcRun 4294967295 (s.data.toList.take k) : Nat) : Int) = ((crcL s.data.toList : Nat) : Int) := by
        rw [he, show IntKind.u32.max = ((4294967295 : Nat) : Int) by decide, u32_xor_nat _ _ (by omega) (by rw [← he]; exact hc), Nat.xor_comm]; rfl
      have hcl := crcL_lt s.data.toList
      have hlt' : ¬ (k : Int) < (s.size : Int) := by omega
      clear he
      go_wp2
      go_ret
      exact ⟨ret_int (IntWalk.wrap64_in _ ⟨by omega, by omega⟩), rfl⟩

end Go.Proofs.YtcffomhcmilcpaaGreat.W

/- What writes ints: folded, appendInt, Int; the document's Int. -/
namespace Go.Proofs.YtcffomhcmilcpaaGreat.W
open Go.RowKit Go.Maps
set_option linter.unusedSimpArgs false
set_option linter.unusedVariables false
set_option maxRecDepth 100000

theorem hid {p : Prop} (h : p) : Hid p := h
theorem info5 : ∃ i, Tryz.prog.info? 5 = some i ∧ i.zero = some (.int .u8 0) ∧ i.size = 1 ∧ i.bytes = 1 := ⟨_, rfl, rfl, rfl, rfl⟩

theorem cell_new {w1 : World} {cs : Array Value} {t : TypeId} {b : Nat} (hb : b = w1.heap.size) {j : Nat} {u : Value} (hu : cs[j]? = some u) : (w1.alloc (.cells cs t)).cell? ⟨b, j, none⟩ = some u := by
  subst hb
  have h := heap_alloc_new w1 (.cells cs t)
  show (match (w1.alloc (.cells cs t)).heap[w1.heap.size]? with | some (.cells c _ _) => c[j]? | _ => none) = _
  rw [h]
  exact hu
theorem one_cell {w1 : World} {v : Value} {t : TypeId} {b : Nat} (hb : b = w1.heap.size) : ∀ (j : Nat) (u : Value), [v][j]? = some u → (w1.alloc (.cells #[v] t)).cell? ((⟨b, 0, none⟩ : Addr).add j) = some u := fun j u hu => by
  have hadd : (⟨b, 0, none⟩ : Addr).add j = ⟨b, j, none⟩ := by unfold Addr.add; split <;> simp_all
  rw [hadd]
  exact cell_new hb (by simpa using hu)

/-- Bytes as cells. -/
def u8c (l : List UInt8) : List Value := l.map fun b => .int .u8 (b.toNat : Int)
theorem u8c_length (l : List UInt8) : (u8c l).length = l.length := by simp [u8c]
theorem u8c_append (l m : List UInt8) : u8c (l ++ m) = u8c l ++ u8c m := by simp [u8c]

/-- A row of bytes of the call's own, from block B on. -/
def Row (w : World) (B : Nat) (v : Value) (l : List UInt8) : Prop := w.ownsRow B 5 1 v l.length (u8c l)

theorem Row.nil (w : World) (B : Nat) : Row w B (.slice none 0 0) [] := World.ownsRow_nil w B 5 1
theorem Row.alloc {w : World} {B : Nat} {v : Value} {l : List UInt8} (h : Row w B v l) (o : Obj) : Row (w.alloc o) B v l := by
  obtain ⟨h1, h2⟩ := h
  refine ⟨h1, ?_⟩
  rcases h2 with h2 | ⟨g, cap, cur, e, hB, hg, r⟩
  · exact .inl h2
  · refine .inr ⟨g, cap, cur, e, hB, ?_, r⟩
    have : g < w.heap.size := by
      rcases Nat.lt_or_ge g w.heap.size with h | h
      · exact h
      · rw [Array.getElem?_eq_none h] at hg; cases hg
    rw [Below.heap_alloc w o g this]
    exact hg
theorem Row.drew {w : World} {B : Nat} {v : Value} {l : List UInt8} (h : Row w B v l) : Row w.drew B v l := h
theorem Row.base {w : World} {B B' : Nat} {v : Value} {l : List UInt8} (h : Row w B v l) (hB : B' ≤ B) : Row w B' v l := by
  obtain ⟨h1, h2⟩ := h
  refine ⟨h1, ?_⟩
  rcases h2 with h2 | ⟨g, cap, cur, e, hB2, r⟩
  · exact .inl h2
  · exact .inr ⟨g, cap, cur, e, Nat.le_trans hB hB2, r⟩
theorem Row.own {w : World} {B : Nat} {v : Value} {l : List UInt8} (h : Row w B v l) : ∀ k, v.ownBlock = some k → B ≤ k := fun k hk => (World.ownsRow.lt h k hk).1
/-- A row of another call, kept by what turns only from B' on. -/
theorem Row.under {w w' : World} {B B' : Nat} {v : Value} {l : List UInt8} (h : Row w B v l) (hb : Below w.heap.size w w') : Row w' B v l := by
  obtain ⟨h1, h2⟩ := h
  refine ⟨h1, ?_⟩
  rcases h2 with h2 | ⟨g, cap, cur, e, hB, hg, r⟩
  · exact .inl h2
  · refine .inr ⟨g, cap, cur, e, hB, ?_, r⟩
    have : g < w.heap.size := by
      rcases Nat.lt_or_ge g w.heap.size with h | h
      · exact h
      · rw [Array.getElem?_eq_none h] at hg; cases hg
    rw [hb.block g this]
    exact hg
theorem Row.of {w : World} {B : Nat} {v : Value} {l m : List UInt8} (h : w.ownsRow B 5 1 v (l.length + m.length) (u8c l ++ u8c m)) : Row w B v (l ++ m) := by
  unfold Row
  rw [List.length_append, u8c_append]
  exact h

/-- What an append may turn: the row itself; what is new is new. -/
structure Grow (w w' : World) (v v' : Value) : Prop where
  grown : w.grownBy w' v.ownBlock
  own : ∀ q, v'.ownBlock = some q → v.ownBlock = some q ∨ w.heap.size ≤ q
theorem Grow.refl (w : World) (v : Value) : Grow w w v v := ⟨World.grownBy.refl _ _, fun q h => .inl h⟩
theorem Grow.trans {w w1 w2 : World} {v v1 v2 : Value} (h : Grow w w1 v v1) (k : Grow w1 w2 v1 v2) : Grow w w2 v v2 :=
  ⟨h.grown.andThen k.grown (fun j hj => (h.own j hj).symm), fun q hq => by
    rcases k.own q hq with h1 | h1
    · exact h.own q h1
    · exact .inr (Nat.le_trans h.grown.size h1)⟩
theorem Grow.alloc {w w1 : World} {v v1 : Value} (h : Grow w w1 v v1) (O : Obj) : Grow w (w1.alloc O) v v1 :=
  ⟨h.grown.trans (World.grownBy_alloc w1 O _), h.own⟩
/-- A block that is no row's is as it was. -/
theorem Grow.block {w w1 : World} {v v1 : Value} (h : Grow w w1 v v1) {q : Nat} (hq : q < w.heap.size) (hv : v.ownBlock ≠ some q) : w1.heap[q]? = w.heap[q]? ∧ v1.ownBlock ≠ some q ∧ q < w1.heap.size :=
  ⟨h.grown.block q hq (fun e => hv e.symm), fun e => by
    rcases h.own q e with h1 | h1
    · exact hv h1
    · omega, Nat.lt_of_lt_of_le hq h.grown.size⟩
theorem Grow.step {w wr w2 : World} {v0 v v' : Value} (h : Grow w wr v0 v) (O : Obj) (hg : (wr.alloc O).grownBy w2 v.ownBlock) (hat : v'.ownBlock = v.ownBlock ∨ v'.ownBlock = some (wr.alloc O).heap.size) : Grow w w2 v0 v' :=
  (h.alloc O).trans ⟨hg, fun q hq => by
    rcases hat with h1 | h1
    · exact .inl (h1 ▸ hq)
    · rw [h1] at hq; cases hq; exact .inr (Nat.le_refl _)⟩

/- Ints as digits. -/
theorem not_neg (n : Int) (h1 : -9223372036854775808 ≤ n) (h2 : n < 0) : bits .xor .i64 (-1) n = -1 - n := by
  show IntKind.i64.wrap ((BitVec.ofInt 64 (-1) ^^^ BitVec.ofInt 64 n).toNat : Int) = _
  have e1 : (BitVec.ofInt 64 (-1)).toNat = 2 ^ 64 - 1 := by decide
  have e2 : (BitVec.ofInt 64 n).toNat = (n + 18446744073709551616).toNat := by
    rw [BitVec.toNat_ofInt]
    have : (n % ((2 ^ 64 : Nat) : Int)) = n + 18446744073709551616 := by
      rw [show ((2 ^ 64 : Nat) : Int) = 18446744073709551616 by rfl]; omega
    rw [this]
  rw [BitVec.toNat_xor, e1, e2, Lib.xor_ones64 _ (by omega), IntKind.wrap_i64]
  omega

set_option maxHeartbeats 400000 in
theorem folded_any (n : Int) (w : World) (h : I64 n) : Calls Tryz.prog 172 #[.int .i64 n] w fun e w' => e = .returned (.int .u64 ((zz n : Nat) : Int)) ∧ w = w' := by
  obtain ⟨h1, h2⟩ := h
  by_cases hn : n < 0
  · have hx := not_neg n h1 hn
    have hor := u64_or_nat (2 * (-(n + 1)).toNat) 1 (by omega) (by omega)
    have ej : 2 * (-(n + 1)).toNat ||| 1 = 2 * (-(n + 1)).toNat + 1 := nat_join 1 _ 1 (by omega) (by omega)
    rw [ej] at hor
    have hz : zz n = 2 * (-(n + 1)).toNat + 1 := by unfold zz; rw [if_pos hn]
    rw [← hz] at hor
    have hor2 : bits .or .u64 ((-1 - n) * 2) 1 = ((zz n : Nat) : Int) := by
      rw [← hor]
      congr 1
      omega
    have hwr : IntKind.u64.wrap (IntKind.u64.wrap (-1 - n) * 2) = (-1 - n) * 2 := by rw [IntKind.wrap_u64, IntKind.wrap_u64]; omega
    have H : Hid (bits .or .u64 (IntKind.u64.wrap (IntKind.u64.wrap (-1 - n) * 2)) 1 = ((zz n : Nat) : Int)) := by show _ = _; rw [hwr, hor2]
    clear ej hor hz hor2 hwr
    go_enter Tryz.func172, Tryz.ntmps172
    go_wp2
    go_ret
    exact ⟨ret_int H.out, rfl⟩
  · have hz : ((zz n : Nat) : Int) = n * 2 := by unfold zz; rw [if_neg hn]; omega
    have H := hid hz
    clear hz
    go_enter Tryz.func172, Tryz.ntmps172
    go_wp2
    go_ret
    exact ⟨ret_int H.out.symm, rfl⟩

set_option maxHeartbeats 400000 in
theorem unfolded_any (z : Nat) (w : World) (h : z < 18446744073709551616) : Calls Tryz.prog 134 #[.int .u64 (z : Int)] w fun e w' => e = .returned (.int .i64 (unzz z)) ∧ w = w' := by
  have ha := u64_and_nat z 1 h (by omega)
  rw [nat_mask1, show (((1 : Nat) : Int)) = 1 by rfl] at ha
  by_cases hz : z % 2 = 1
  · have hx := Lib.i64_not (z / 2) (by omega)
    rw [show (((z / 2 : Nat) : Int)) = (z : Int) / 2 by omega] at hx
    rw [hz] at ha
    have ha' : bits .and .u64 (z : Int) 1 = 1 := ha
    have H : Hid (unzz z = -((z : Int) / 2) - 1) := by show _ = _; unfold unzz; rw [if_pos hz]; omega
    clear ha
    go_enter Tryz.func134, Tryz.ntmps134
    go_wp2
    go_ret
    exact ⟨ret_int H.out.symm, rfl⟩
  · have hz0 : z % 2 = 0 := by omega
    rw [hz0] at ha
    have ha' : bits .and .u64 (z : Int) 1 = 0 := ha
    have H : Hid (unzz z = (z : Int) / 2) := by show _ = _; unfold unzz; rw [if_neg hz]; omega
    clear ha
    go_enter Tryz.func134, Tryz.ntmps134
    go_wp2
    go_ret
    exact ⟨ret_int H.out.symm, rfl⟩

theorem or128 : ∀ x : Nat, x < 256 → x ||| 128 = x % 128 + 128 := by decide
theorem bits_or128 (z : Nat) : bits .or .u8 ((z : Int) % 256) 128 = ((z % 128 + 128 : Nat) : Int) := by
  have h := u8_or_nat (z % 256) 128 (by omega) (by omega)
  rw [or128 _ (by omega), show (((128 : Nat) : Int)) = 128 by rfl] at h
  rw [show (z : Int) % 256 = ((z % 256 : Nat) : Int) by omega, h]
  omega

theorem digs_small (f z : Nat) (h : z < 128) : digs f z = [UInt8.ofNat z] := by
  cases f with
  | zero => rfl
  | succ f => simp only [digs, if_pos h]
theorem digs_more (k z : Nat) (hk : k < 9) (h : ¬ z < 128) : digs (9 - k) z = UInt8.ofNat (z % 128 + 128) :: digs (9 - (k + 1)) (z / 128) := by
  rw [show 9 - k = (9 - (k + 1)) + 1 by omega]
  simp only [digs, if_neg h]
theorem pow_down (k z : Nat) (hk : k < 9) (h : z < 2 * 128 ^ (9 - k)) : z / 128 < 2 * 128 ^ (9 - (k + 1)) := by
  rw [show 9 - k = (9 - (k + 1)) + 1 by omega, Nat.pow_succ] at h
  omega

/-- Where appendInt stands behind k digits. -/
structure IntAt (w : World) (B : Nat) (v0 : Value) (t : List UInt8) (k z : Nat) (m : List UInt8) (v : Value) (wr : World) : Prop where
  row : Row wr B v m
  len : m.length ≤ t.length
  all : m ++ digs (9 - k) z = t
  small : z < 2 * 128 ^ (9 - k)
  below : Below B w wr
  grow : Grow w wr v0 v

theorem IntAt.next {w : World} {B : Nat} {v0 : Value} {t : List UInt8} {k z : Nat} {m : List UInt8} {v : Value} {wr : World} (h : IntAt w B v0 t k z m v wr) (hB : B ≤ w.heap.size) (hk : k < 9) (hz : ¬ z < 128) (x : Int) (hx : x = ((z % 128 + 128 : Nat) : Int)) (O : Obj) (v' : Value) (w2 : World)
    (hown : w2.ownsRow B 5 1 v' (m.length + 1) (u8c m ++ [.int .u8 x])) (hg : (wr.alloc O).grownBy w2 v.ownBlock) (hat : v'.ownBlock = v.ownBlock ∨ v'.ownBlock = some (wr.alloc O).heap.size) : IntAt w B v0 t (k + 1) (z / 128) (m ++ [UInt8.ofNat (z % 128 + 128)]) v' w2 := by
  have hsz := h.below.size
  have hd := digs_more k z hk hz
  have hall := h.all
  rw [hd] at hall
  refine ⟨?_, ?_, ?_, pow_down k z hk h.small, ?_, h.grow.step O hg hat⟩
  · refine Row.of (l := m) (m := [UInt8.ofNat (z % 128 + 128)]) ?_
    have e : u8c [UInt8.ofNat (z % 128 + 128)] = [.int .u8 x] := by
      subst hx
      simp [u8c, toNat_u8 (z % 128 + 128) (by omega)]
      omega
    rw [e]
    exact hown
  · rw [← hall]; simp
  · rw [← hall]; simp
  · exact (h.below.alloc (by omega) O).grown hg (by simp; omega) h.row.own

theorem IntAt.last {w : World} {B : Nat} {v0 : Value} {t : List UInt8} {k z : Nat} {m : List UInt8} {v : Value} {wr : World} (h : IntAt w B v0 t k z m v wr) (hB : B ≤ w.heap.size) (hz : z < 128) (O : Obj) (v' : Value) (w2 : World)
    (hown : w2.ownsRow B 5 1 v' (m.length + 1) (u8c m ++ [.int .u8 (z : Int)])) (hg : (wr.alloc O).grownBy w2 v.ownBlock) (hat : v'.ownBlock = v.ownBlock ∨ v'.ownBlock = some (wr.alloc O).heap.size) : Row w2 B v' t ∧ Below B w w2 ∧ Grow w w2 v0 v' := by
  have hsz := h.below.size
  have hall := h.all
  rw [digs_small _ z hz] at hall
  refine ⟨?_, (h.below.alloc (by omega) O).grown hg (by simp; omega) h.row.own, h.grow.step O hg hat⟩
  rw [← hall]
  refine Row.of (l := m) (m := [UInt8.ofNat z]) ?_
  have e : u8c [UInt8.ofNat z] = [.int .u8 (z : Int)] := by
    simp [u8c, toNat_u8 z (by omega)]
  rw [e]
  exact hown

set_option maxHeartbeats 1600000 in
theorem appendInt_any {w : World} {B : Nat} {v : Value} {l : List UInt8} (h : Row w B v l) (hB : B ≤ w.heap.size) (hl : l.length ≤ 1000000000000) (n : Int) (hn : I64 n) :
    Calls Tryz.prog 139 #[v, .int .i64 n] w fun e w' => ∃ v', e = .returned v' ∧ Row w' B v' (l ++ intL n) ∧ Below B w w' ∧ Grow w w' v v' := by
  obtain ⟨i0, hi0, hz0, hz1, hz2⟩ := info5
  have hz := zz_lt n hn.1 hn.2
  have H0 : Hid (IntAt w B v (l ++ intL n) 0 (zz n) l v w) := ⟨h, by simp, rfl, hz, .refl _ _, .refl _ _⟩
  have htl : Hid ((l ++ intL n).length ≤ 1000000000010) := by show _ ≤ _; have := intL_length n; simp; omega
  clear h
  go_enter Tryz.func139, Tryz.ntmps139
  go_wp2_with (go_at_call 172; refine (folded_any n _ hn).mono ?_; rintro e w' ⟨rfl, rfl⟩)
  go_loopg [0, 5, 8] 9 (fun kx s0 s5 s8 wr => ∃ (k z : Nat) (sv : Value) (m : List UInt8), k ≤ 9 ∧ 9 - k ≤ kx ∧ s8 = .int .i64 k ∧ s5 = .int .u64 z ∧ sv = s0 ∧ Hid (IntAt w B v (l ++ intL n) k z m sv wr))
  case atStart => exact ⟨0, _, _, l, by omega, by omega, rfl, rfl, rfl, H0⟩
  case round =>
    obtain ⟨k, z, sv, m, hk, hkx, rfl, rfl, rfl, HD⟩ := hrel
    have hml : m.length ≤ 1000000000010 := Nat.le_trans HD.out.len htl.out
    have hwr : B ≤ wr.heap.size := Nat.le_trans hB HD.out.below.size
    have HR : Hid (∀ O, (wr.alloc O).ownsRow B 5 1 sv m.length (u8c m)) := fun O => HD.out.row.alloc O
    clear H0 htl
    by_cases hlt : k < 9
    · have hlt' : (k : Int) < 9 := by omega
      by_cases hzs : z < 128
      · have hzs' : (z : Int) < 128 := by omega
        go_wp2_with (at_builtin; refine wpList_append_own_at _ rfl _ _ 46 rfl B 5 i0 _ 1 1 Tryz.underlying46 hi0 hz0 hz1 hz2 rfl (by decide) _ m.length (u8c m) rfl (HR.out _) ⟨wr.heap.size, 0, none⟩ 1 1 [.int .u8 (z : Int)] rfl rfl (one_cell rfl) (by simp [Value.oneCell']) (by unfold maxLen; omega) (by omega) (by simp; omega) ?_; intro v' w2 hown2 hg2 _ hat)
        have HF := HD.out.last hB hzs _ v' w2 hown2 hg2 hat
        go_ret
        exact ⟨_, rfl, HF.1, HF.2⟩
      · have hzs' : ¬ (z : Int) < 128 := by omega
        have hor := bits_or128 z
        generalize hX : ((z % 128 + 128 : Nat) : Int) = X at hor
        go_wp2_with (at_builtin; refine wpList_append_own_at _ rfl _ _ 46 rfl B 5 i0 _ 1 1 Tryz.underlying46 hi0 hz0 hz1 hz2 rfl (by decide) _ m.length (u8c m) rfl (HR.out _) ⟨wr.heap.size, 0, none⟩ 1 1 [.int .u8 X] rfl rfl (one_cell rfl) (by simp [Value.oneCell']) (by unfold maxLen; omega) (by omega) (by simp; omega) ?_; intro v' w2 hown2 hg2 _ hat)
        have HF := HD.out.next hB hlt hzs X hX.symm _ v' w2 hown2 hg2 hat
        go_roundg (9 - (k + 1))
        case measure => omega
        case rel => exact ⟨k + 1, z / 128, v', _, by omega, Nat.le_refl _, by go_num, by go_num, rfl, HF⟩
    · have hk9 : k = 9 := by omega
      have hzs : z < 128 := by have := HD.out.small; rw [hk9] at this; simp at this; omega
      have hlt' : ¬ (k : Int) < 9 := by omega
      have hzs' : (z : Int) < 128 := by omega
      clear hk9
      go_wp2_with (at_builtin; refine wpList_append_own_at _ rfl _ _ 46 rfl B 5 i0 _ 1 1 Tryz.underlying46 hi0 hz0 hz1 hz2 rfl (by decide) _ m.length (u8c m) rfl (HR.out _) ⟨wr.heap.size, 0, none⟩ 1 1 [.int .u8 (z : Int)] rfl rfl (one_cell rfl) (by simp [Value.oneCell']) (by unfold maxLen; omega) (by omega) (by simp; omega) ?_; intro v' w2 hown2 hg2 _ hat)
      have HF := HD.out.last hB hzs _ v' w2 hown2 hg2 hat
      go_ret
      exact ⟨_, rfl, HF.1, HF.2⟩

end Go.Proofs.YtcffomhcmilcpaaGreat.W

/- Bytes as strings; Int of both; four bytes. -/
namespace Go.Proofs.YtcffomhcmilcpaaGreat.W
open Go.RowKit Go.Maps
set_option linter.unusedSimpArgs false
set_option linter.unusedVariables false
set_option maxRecDepth 100000

def strOf (bs : List UInt8) : ByteArray := ⟨bs.toArray⟩
theorem strOf_size (l : List UInt8) : (strOf l).size = l.length := by simp [strOf, ByteArray.size]
theorem strOf_data (l : List UInt8) : (strOf l).data.toList = l := by simp [strOf]
theorem strOf_eq (s : ByteArray) : strOf s.data.toList = s := by simp [strOf]

theorem strOfNums_u8 (bs : List UInt8) : strOfNums (bs.map fun b => (b.toNat : Int)) = strOf bs := by
  have e : bs.map (fun b : UInt8 => UInt8.ofNat ((b.toNat : Int).toNat)) = bs := by
    induction bs with
    | nil => rfl
    | cons x r ih => simp only [List.map_cons, ih]; simp
  simp only [strOfNums, strOf, List.map_map, Function.comp_def, e]

theorem Row.conv {w : World} {B : Nat} {v : Value} {l : List UInt8} (h : Row w B v l) : (convert 46 9 v).run Tryz.prog w = .ok (.string (strOf l)) w := by
  obtain ⟨h1, h2⟩ := h
  rcases h2 with ⟨rfl, hn⟩ | ⟨g, cap, cur, rfl, hB, hg, hc, hm, hs, ht⟩
  · have : l = [] := List.eq_nil_of_length_eq_zero hn
    subst this
    exact run_convert_bytes_nil w 46 5 Tryz.underlying46 Tryz.underlying5 _ _ 9 Tryz.underlying9
  · have := run_convert_bytes_arg w 46 5 Tryz.underlying46 Tryz.underlying5 g 0 l.length cap (l.map fun b => (b.toNat : Int)) (by simp) (fun i hi => by
      have h1 : (cur.toList.take (l.length * 1))[i]? = (u8c l)[i]? := by rw [ht]
      have h2 : (u8c l)[i]? = some (.int .u8 (l[i].toNat : Int)) := by simp [u8c, hi]
      rw [h2, List.getElem?_take, if_pos (by omega)] at h1
      simp only [World.cell?, Nat.zero_add, hg]
      simpa [hi] using h1) 9 Tryz.underlying9
    rw [this, strOfNums_u8]
theorem Row.shape {w : World} {B : Nat} {v : Value} {l : List UInt8} (h : Row w B v l) : ∃ a cap, v = .slice a l.length cap := by
  obtain ⟨h1, h2⟩ := h
  rcases h2 with ⟨rfl, hn⟩ | ⟨g, cap, cur, rfl, hB, hg, hc, hm, hs, ht⟩
  · exact ⟨_, _, by rw [hn]⟩
  · exact ⟨_, _, rfl⟩

set_option maxHeartbeats 400000 in
theorem int_any (n : Int) (w : World) (hn : I64 n) : Calls Tryz.prog 98 #[.int .i64 n] w fun e w' => e = .returned (.string (strOf (intL n))) ∧ Below w.heap.size w w' := by
  have HC := hid (appendInt_any (Row.nil w w.heap.size) (Nat.le_refl _) (by simp) n hn)
  go_enter Tryz.func98, Tryz.ntmps98
  go_wp2_with (go_at_call 139; refine HC.out.mono ?_; rintro e w1 ⟨v', rfl, hrow, hb, _⟩; rw [List.nil_append] at hrow; have hcv := hrow.conv; obtain ⟨a, cap, hv⟩ := hrow.shape; rw [hv] at hcv ⊢)
  go_ret
  exact ⟨rfl, hb⟩

/-- The document's way to the number. -/
theorem rz_neg (n : Int) (h1 : -9223372036854775808 ≤ n) (h2 : n < 0) : 2 * (-(n + 1)) + 1 = ((zz n : Nat) : Int) := by unfold zz; rw [if_pos h2]; omega
theorem rz_pos (n : Int) (h2 : ¬ n < 0) : 2 * n = ((zz n : Nat) : Int) := by unfold zz; rw [if_neg h2]; omega

theorem digs_zero (z : Nat) (f : Nat) (h : z < 2 * 128 ^ f) (hz : ¬ z < 128) : f ≠ 0 := by
  intro e; subst e; simp at h; omega

theorem IntAt.lt64 {w : World} {B : Nat} {v0 : Value} {t : List UInt8} {k z : Nat} {m : List UInt8} {v : Value} {wr : World} (h : IntAt w B v0 t k z m v wr) : z < 18446744073709551616 := by
  have h1 := h.small
  have h2 : 128 ^ (9 - k) ≤ 128 ^ 9 := Nat.pow_le_pow_right (by omega) (by omega)
  have h3 : (128 : Nat) ^ 9 = 9223372036854775808 := by decide
  omega

end Go.Proofs.YtcffomhcmilcpaaGreat.W

/- ReadInt of both. -/
namespace Go.Proofs.YtcffomhcmilcpaaGreat.W
open Go.RowKit Go.Maps
set_option linter.unusedSimpArgs false
set_option linter.unusedVariables false
set_option maxRecDepth 100000

theorem drop_at (s : ByteArray) (k : Nat) (h : k < s.size) : s.data.toList.drop k = s[k] :: s.data.toList.drop (k + 1) := by
  rw [List.drop_eq_getElem_cons (by simpa using h)]; rfl

theorem and127 : ∀ x : Nat, x < 256 → x &&& 127 = x % 128 := fun x _ => nat_mask7 x
theorem pow_two (k : Nat) : (2 : Int) ^ (7 * k) = ((128 ^ k : Nat) : Int) := by
  rw [Int.pow_mul]; norm_cast
theorem shl_lt (z d k : Nat) (hk : k ≤ 9) (hz : z < 128 ^ k) (h9 : k = 9 → d ≤ 1) : z + d % 128 * 128 ^ k < 18446744073709551616 := by
  have h9' : (128 : Nat) ^ 9 = 9223372036854775808 := by decide
  by_cases h : k = 9
  · subst h
    have : d % 128 * 128 ^ 9 ≤ 1 * 128 ^ 9 := Nat.mul_le_mul_right _ (by have := h9 rfl; omega)
    omega
  · have hp8 : 128 ^ k ≤ 128 ^ 8 := Nat.pow_le_pow_right (by omega) (by omega)
    have h8 : (128 : Nat) ^ 8 = 72057594037927936 := by decide
    have : d % 128 * 128 ^ k ≤ 127 * 128 ^ k := Nat.mul_le_mul_right _ (by omega)
    omega
theorem shl_pow (z d k : Nat) (hz : z < 128 ^ k) : z + d % 128 * 128 ^ k < 128 ^ (k + 1) := by
  have : d % 128 * 128 ^ k ≤ 127 * 128 ^ k := Nat.mul_le_mul_right _ (by omega)
  rw [Nat.pow_succ]
  omega
theorem shl_or (z d k : Nat) (hk : k ≤ 9) (hz : z < 128 ^ k) (hd : d < 256) (h9 : k = 9 → d ≤ 1) :
    bits .or .u64 (z : Int) (IntKind.u64.wrap (IntKind.u64.wrap (bits .and .u8 (d : Int) 127) * 2 ^ (7 * k))) = ((z + d % 128 * 128 ^ k : Nat) : Int) := by
  have hlt := shl_lt z d k hk hz h9
  have e1 : bits .and .u8 (d : Int) 127 = ((d % 128 : Nat) : Int) := by
    have := u8_and_nat d 127 hd (by omega)
    rw [nat_mask7] at this
    exact this
  have e2 : IntKind.u64.wrap ((d % 128 : Nat) : Int) = ((d % 128 : Nat) : Int) := by rw [IntKind.wrap_u64]; omega
  have e3 : IntKind.u64.wrap (((d % 128 * 128 ^ k : Nat) : Int)) = ((d % 128 * 128 ^ k : Nat) : Int) := by rw [IntKind.wrap_u64]; omega
  rw [e1, e2, pow_two, ← Int.natCast_mul, e3, u64_or_nat _ _ (by omega) (by omega)]
  have hj := nat_join (7 * k) (d % 128 * 128 ^ k) z (by rw [Nat.pow_mul]; exact Nat.mul_mod_left _ _) (by rw [Nat.pow_mul]; exact hz)
  rw [Nat.or_comm, hj, Nat.add_comm]
theorem rdZ_step (f k z : Nat) (d : UInt8) (r : List UInt8) (h : ¬ ((k = 9 ∧ 1 < d.toNat) ∨ (0 < k ∧ d.toNat = 0))) :
    rdZ (f + 1) k z (d :: r) = if d.toNat < 128 then (z + d.toNat % 128 * 128 ^ k, k + 1, 0) else rdZ f (k + 1) (z + d.toNat % 128 * 128 ^ k) r := by
  rw [rdZ, if_neg h]
  by_cases hd : d.toNat < 128
  · rw [if_pos hd, if_pos hd, Nat.mod_eq_of_lt hd]
  · rw [if_neg hd, if_neg hd]

set_option maxHeartbeats 1600000 in
theorem readInt_any (s : ByteArray) (w : World) (hs : s.size ≤ maxLen) :
    Calls Tryz.prog 88 #[.string s] w fun e w' => e = .returned (.tuple #[.int .i64 (readL s.data.toList).1, .int .i64 ((readL s.data.toList).2.1 : Nat), .int .i64 (readL s.data.toList).2.2]) ∧ w = w' := by
  unfold maxLen at hs
  obtain ⟨R, hR⟩ : ∃ R, R = rdZ 10 0 0 s.data.toList := ⟨_, rfl⟩
  have HR : Hid (readL s.data.toList = okI R) := by show _ = _; rw [hR]; rfl
  have H0 : Hid (rdZ (10 - 0) 0 0 (s.data.toList.drop 0) = R) := hR.symm
  clear hR
  go_enter Tryz.func88, Tryz.ntmps88
  go_wp2
  go_loop [5, 8] (fun c i => ∃ k z : Nat, k ≤ 10 ∧ k ≤ s.size ∧ i = .int .i64 k ∧ c = .int .u64 z ∧ z < 128 ^ k ∧ Hid (rdZ (10 - k) k z (s.data.toList.drop k) = R)) (fun _ i => 10 - (intOf i).toNat)
  case atStart => exact ⟨0, 0, Nat.zero_le _, Nat.zero_le _, rfl, rfl, by simp, H0⟩
  case round =>
    obtain ⟨k, z, hk, hks, rfl, rfl, hz, HD⟩ := hrel
    clear H0
    by_cases hlt : k < 10
    · have hlt' : (k : Int) < 10 := by omega
      by_cases hsz : k < s.size
      · have hsz' : ((k : Int) == (s.size : Int)) = false := by simp; omega
        by_cases h9 : k = 9
        · have h9' : ((k : Int) == 9) = true := by simp; omega
          by_cases hd1 : 1 < s[k].toNat
          · have hd1' : 1 < (s[k].toNat : Int) := by omega
            have HF : Hid (readL s.data.toList = (0, 0, 4)) := by
              show _ = _
              rw [HR.out, ← HD.out, drop_at s k hsz, show 10 - k = 10 - (k + 1) + 1 by omega, rdZ, if_pos (by omega)]
              rfl
            try clear h9
            try clear h0
            try clear hd0
            go_wp2
            go_ret3
            exact ⟨by rw [HF.out]; rfl, rfl⟩
          · have hd1' : ¬ 1 < (s[k].toNat : Int) := by omega
            have h0' : 0 < (k : Int) := by omega
            by_cases hd0 : s[k].toNat = 0
            · have hd0' : ((s[k].toNat : Int) == 0) = true := by simp; omega
              have HF : Hid (readL s.data.toList = (0, 0, 4)) := by
                show _ = _
                rw [HR.out, ← HD.out, drop_at s k hsz, show 10 - k = 10 - (k + 1) + 1 by omega, rdZ, if_pos (by omega)]
                rfl
              try clear h9
              try clear h0
              try clear hd0
              go_wp2
              go_ret3
              exact ⟨by rw [HF.out]; rfl, rfl⟩
            · have hd0' : ((s[k].toNat : Int) == 0) = false := by simp; omega
              have hb := s[k].toNat_lt
              have hcond : ¬ ((k = 9 ∧ 1 < s[k].toNat) ∨ (0 < k ∧ s[k].toNat = 0)) := by omega
              obtain ⟨Z, hZ⟩ : ∃ Z, Z = z + s[k].toNat % 128 * 128 ^ k := ⟨_, rfl⟩
              have hbig := shl_or z s[k].toNat k (by omega) hz (by omega) (by omega)
              have hZlt := shl_lt z s[k].toNat k (by omega) hz (by omega)
              have hZp := shl_pow z s[k].toNat k hz
              have HN := hid (rdZ_step (10 - (k + 1)) k z s[k] (s.data.toList.drop (k + 1)) hcond)
              rw [← hZ] at hbig hZlt hZp HN
              rw [show 10 - (k + 1) + 1 = 10 - k by omega, ← drop_at s k hsz] at HN
              have HN2 := HN.out.symm.trans HD.out
              have HN3 := hid HN2
              clear HN HN2 hZ hcond hz
              try clear h9
              try clear h0
              try clear hd0
              by_cases hd : s[k].toNat < 128
              · have hd' : (s[k].toNat : Int) < 128 := by omega
                have HF : Hid (readL s.data.toList = (unzz Z, k + 1, 0)) := by
                  show _ = _
                  rw [HR.out, ← HN3.out, if_pos hd]
                  rfl
                go_wp2_with (go_at_call 134; refine (unfolded_any Z _ hZlt).mono ?_; rintro e w' ⟨rfl, rfl⟩)
                go_ret3
                exact ⟨by rw [HF.out]; go_num, rfl⟩
              · omega
        · have h9' : ((k : Int) == 9) = false := by simp; omega
          by_cases h0 : k = 0
          · have h0' : ¬ 0 < (k : Int) := by omega
            have hb := s[k].toNat_lt
            have hcond : ¬ ((k = 9 ∧ 1 < s[k].toNat) ∨ (0 < k ∧ s[k].toNat = 0)) := by omega
            obtain ⟨Z, hZ⟩ : ∃ Z, Z = z + s[k].toNat % 128 * 128 ^ k := ⟨_, rfl⟩
            have hbig := shl_or z s[k].toNat k (by omega) hz (by omega) (by omega)
            have hZlt := shl_lt z s[k].toNat k (by omega) hz (by omega)
            have hZp := shl_pow z s[k].toNat k hz
            have HN := hid (rdZ_step (10 - (k + 1)) k z s[k] (s.data.toList.drop (k + 1)) hcond)
            rw [← hZ] at hbig hZlt hZp HN
            rw [show 10 - (k + 1) + 1 = 10 - k by omega, ← drop_at s k hsz] at HN
            have HN2 := HN.out.symm.trans HD.out
            have HN3 := hid HN2
            clear HN HN2 hZ hcond hz
            try clear h9
            try clear h0
            try clear hd0
            by_cases hd : s[k].toNat < 128
            · have hd' : (s[k].toNat : Int) < 128 := by omega
              have HF : Hid (readL s.data.toList = (unzz Z, k + 1, 0)) := by
                show _ = _
                rw [HR.out, ← HN3.out, if_pos hd]
                rfl
              go_wp2_with (go_at_call 134; refine (unfolded_any Z _ hZlt).mono ?_; rintro e w' ⟨rfl, rfl⟩)
              go_ret3
              exact ⟨by rw [HF.out]; go_num, rfl⟩
            · have hd' : ¬ (s[k].toNat : Int) < 128 := by omega
              have HF : Hid (rdZ (10 - (k + 1)) (k + 1) Z (s.data.toList.drop (k + 1)) = R) := by
                show _ = _
                rw [← HN3.out, if_neg hd]
              go_wp2
              go_round
              case rel => exact ⟨k + 1, Z, by omega, by omega, by go_num, rfl, hZp, HF⟩
              case measure => simp [intOf]; omega
          · have h0' : 0 < (k : Int) := by omega
            by_cases hd0 : s[k].toNat = 0
            · have hd0' : ((s[k].toNat : Int) == 0) = true := by simp; omega
              have HF : Hid (readL s.data.toList = (0, 0, 4)) := by
                show _ = _
                rw [HR.out, ← HD.out, drop_at s k hsz, show 10 - k = 10 - (k + 1) + 1 by omega, rdZ, if_pos (by omega)]
                rfl
              try clear h9
              try clear h0
              try clear hd0
              go_wp2
              go_ret3
              exact ⟨by rw [HF.out]; rfl, rfl⟩
            · have hd0' : ((s[k].toNat : Int) == 0) = false := by simp; omega
              have hb := s[k].toNat_lt
              have hcond : ¬ ((k = 9 ∧ 1 < s[k].toNat) ∨ (0 < k ∧ s[k].toNat = 0)) := by omega
              obtain ⟨Z, hZ⟩ : ∃ Z, Z = z + s[k].toNat % 128 * 128 ^ k := ⟨_, rfl⟩
              have hbig := shl_or z s[k].toNat k (by omega) hz (by omega) (by omega)
              have hZlt := shl_lt z s[k].toNat k (by omega) hz (by omega)
              have hZp := shl_pow z s[k].toNat k hz
              have HN := hid (rdZ_step (10 - (k + 1)) k z s[k] (s.data.toList.drop (k + 1)) hcond)
              rw [← hZ] at hbig hZlt hZp HN
              rw [show 10 - (k + 1) + 1 = 10 - k by omega, ← drop_at s k hsz] at HN
              have HN2 := HN.out.symm.trans HD.out
              have HN3 := hid HN2
              clear HN HN2 hZ hcond hz
              try clear h9
              try clear h0
              try clear hd0
              by_cases hd : s[k].toNat < 128
              · have hd' : (s[k].toNat : Int) < 128 := by omega
                have HF : Hid (readL s.data.toList = (unzz Z, k + 1, 0)) := by
                  show _ = _
                  rw [HR.out, ← HN3.out, if_pos hd]
                  rfl
                go_wp2_with (go_at_call 134; refine (unfolded_any Z _ hZlt).mono ?_; rintro e w' ⟨rfl, rfl⟩)
                go_ret3
                exact ⟨by rw [HF.out]; go_num, rfl⟩
              · have hd' : ¬ (s[k].toNat : Int) < 128 := by omega
                have HF : Hid (rdZ (10 - (k + 1)) (k + 1) Z (s.data.toList.drop (k + 1)) = R) := by
                  show _ = _
                  rw [← HN3.out, if_neg hd]
                go_wp2
                go_round
                case rel => exact ⟨k + 1, Z, by omega, by omega, by go_num, rfl, hZp, HF⟩
                case measure => simp [intOf]; omega
      · have hsz' : ((k : Int) == (s.size : Int)) = true := by simp; omega
        have HF : Hid (readL s.data.toList = (0, 0, 5)) := by
          show _ = _
          rw [HR.out, ← HD.out, show 10 - k = 10 - (k + 1) + 1 by omega, List.drop_of_length_le (by simp; omega)]
          rfl
        go_wp2
        go_ret3
        exact ⟨by rw [HF.out]; rfl, rfl⟩
    · have hlt' : ¬ (k : Int) < 10 := by omega
      have HF : Hid (readL s.data.toList = (0, 0, 4)) := by
        show _ = _
        rw [HR.out, ← HD.out, show 10 - k = 0 by omega]
        rfl
      go_wp2
      go_ret3
      exact ⟨by rw [HF.out]; rfl, rfl⟩
end Go.Proofs.YtcffomhcmilcpaaGreat.W

/- Four bytes, of both. -/
namespace Go.Proofs.YtcffomhcmilcpaaGreat.W
open Go.RowKit Go.Maps
set_option linter.unusedSimpArgs false
set_option linter.unusedVariables false
set_option maxRecDepth 100000

theorem row_made (w : World) (cs : List Value) (l : List UInt8) (n : Nat) (h : cs = u8c l) (hn : n = l.length) (hm : n ≤ maxLen) : Row (w.alloc (.cells cs.toArray 5)) w.heap.size (.slice (some ⟨w.heap.size, 0, none⟩) n n) l := by
  subst h hn
  refine ⟨by simp [u8c], .inr ⟨w.heap.size, l.length, (u8c l).toArray, rfl, Nat.le_refl _, heap_alloc_new w _, Nat.le_refl _, hm, by simp [u8c], ?_⟩⟩
  show ((u8c l).toArray.toList).take (l.length * 1) = u8c l
  rw [List.take_of_length_le (by simp [u8c])]

theorem fourL_cells (n : Nat) (h : n < 4294967296) : [.int .u8 ((n : Int) / 16777216), .int .u8 ((n : Int) / 65536 % 256), .int .u8 ((n : Int) / 256 % 256), .int .u8 ((n : Int) % 256)] = u8c (fourL n) := by
  simp [u8c, fourL]
  omega
theorem four_conv (w : World) (n : Nat) (h : n < 4294967296) :
    (convert 46 9 (.slice (some ⟨w.heap.size, 0, none⟩) 4 4)).run Tryz.prog (w.alloc (.cells #[.int .u8 ((n : Int) / 16777216), .int .u8 ((n : Int) / 65536 % 256), .int .u8 ((n : Int) / 256 % 256), .int .u8 ((n : Int) % 256)] 5)) =
      .ok (.string (strOf (fourL n))) (w.alloc (.cells #[.int .u8 ((n : Int) / 16777216), .int .u8 ((n : Int) / 65536 % 256), .int .u8 ((n : Int) / 256 % 256), .int .u8 ((n : Int) % 256)] 5)) :=
  (row_made w _ (fourL n) 4 (fourL_cells n h) rfl (by unfold maxLen; omega)).conv

theorem i64_or_nat (a b : Nat) (ha : a < 9223372036854775808) (hb : b < 9223372036854775808) : bits .or .i64 (a : Int) (b : Int) = ((a ||| b : Nat) : Int) := by
  have hx : a ||| b < 2 ^ 63 := Nat.or_lt_two_pow (by omega) (by omega)
  show IntKind.i64.wrap ((BitVec.ofInt 64 (a : Int) ||| BitVec.ofInt 64 (b : Int)).toNat : Int) = _
  rw [BitVec.toNat_or, ofInt_u64 a (by omega), ofInt_u64 b (by omega), IntKind.wrap_i64]
  omega
theorem or_byte (a d : Nat) (ha : a < 16777216) (hd : d < 256) : bits .or .i64 ((a : Int) * 256) (d : Int) = ((a * 256 + d : Nat) : Int) := by
  have h := i64_or_nat (a * 256) d (by omega) (by omega)
  rw [nat_join 8 (a * 256) d (by omega) (by omega)] at h
  rw [show ((a : Int) * 256) = ((a * 256 : Nat) : Int) by omega, h]

def accN (l : List UInt8) : Nat := l.foldl (fun a b => a * 256 + b.toNat) 0
theorem accN_snoc (l : List UInt8) (b : UInt8) : accN (l ++ [b]) = accN l * 256 + b.toNat := by simp [accN]
theorem accN_lt (s : ByteArray) : ∀ k, k ≤ 4 → k ≤ s.size → accN (s.data.toList.take k) < 256 ^ k
  | 0, _, _ => by simp [accN]
  | k + 1, h, hs => by
    have ih := accN_lt s k (by omega) (by omega)
    have := s[k].toNat_lt
    rw [take_snoc s k (by omega), accN_snoc, Nat.pow_succ]
    omega
theorem accN_four (l : List UInt8) (h : 4 ≤ l.length) : accN (l.take 4) = fourN l := by
  match l, h with
  | a :: b :: c :: d :: r, _ => simp [accN, fourN]; omega

theorem fourN_at (s : ByteArray) (h4 : 4 ≤ s.size) : fourN s.data.toList = s[0].toNat * 16777216 + s[1].toNat * 65536 + s[2].toNat * 256 + s[3].toNat := by
  have e : s.data.toList = s[0] :: s[1] :: s[2] :: s[3] :: s.data.toList.drop 4 := by
    have h0 := drop_at s 0 (by omega)
    have h1 := drop_at s 1 (by omega)
    have h2 := drop_at s 2 (by omega)
    have h3 := drop_at s 3 (by omega)
    simp only [List.drop_zero, Nat.zero_add, Nat.reduceAdd] at h0 h1 h2 h3
    rw [h3] at h2
    rw [h2] at h1
    rw [h1] at h0
    exact h0
  have e2 := congrArg fourN e
  rw [e2]
  rfl

theorem idx_const (s : ByteArray) (k : Nat) (h : k < s.size) (w : World) : (Instr.index 9 (.string s) (.int .i64 (k : Int))).run Tryz.prog w = .ok (.int .u8 (s[k].toNat : Int)) w := by
  rw [run_index_string (P := Tryz.prog) w 9 s .i64 (k : Int) Tryz.underlying9]
  simp [h]

end Go.Proofs.YtcffomhcmilcpaaGreat.W

/- Batches in memory: their records, row by row; what looks at them: rightTimes, hasLongText. -/
namespace Go.Proofs.YtcffomhcmilcpaaGreat.W
open Go.RowKit Go.Maps
set_option linter.unusedSimpArgs false
set_option linter.unusedVariables false
set_option maxRecDepth 100000

def Rec.ok (r : Rec) : Prop := I64 r.time ∧ r.key.length ≤ maxLen ∧ r.val.length ≤ maxLen
def RecCells (w : World) (b o : Nat) (r : Rec) : Prop := w.cell? ⟨b, o, none⟩ = some (.string (strOf r.key)) ∧ w.cell? ⟨b, o + 1, none⟩ = some (.string (strOf r.val)) ∧ w.cell? ⟨b, o + 2, none⟩ = some (.int .i64 r.time)
def RecsAt (w : World) (a : Option Addr) (rs : List Rec) : Prop := rs = [] ∨ ∃ b off, a = some ⟨b, off, none⟩ ∧ b < w.heap.size ∧ ∀ i (h : i < rs.length), RecCells w b (off + i * 3) rs[i]
/-- A slice of records that is there. -/
structure Recs (w : World) (v : Value) (rs : List Rec) : Prop where
  shape : ∃ a cap, v = .slice a rs.length cap ∧ RecsAt w a rs
  ok : ∀ r ∈ rs, r.ok
  len : rs.length ≤ maxLen

theorem RecCells.under {w w' : World} {b o : Nat} {r : Rec} (h : RecCells w b o r) (e : w'.heap[b]? = w.heap[b]?) : RecCells w' b o r := by
  obtain ⟨h0, h1, h2⟩ := h
  exact ⟨(World.cell?_of_block (a := ⟨b, o, none⟩) e).trans h0, (World.cell?_of_block (a := ⟨b, o + 1, none⟩) e).trans h1, (World.cell?_of_block (a := ⟨b, o + 2, none⟩) e).trans h2⟩
theorem RecsAt.under {w w' : World} {a : Option Addr} {rs : List Rec} (h : RecsAt w a rs) (hb : Below w.heap.size w w') : RecsAt w' a rs := by
  rcases h with h | ⟨b, off, e, hl, hc⟩
  · exact .inl h
  · exact .inr ⟨b, off, e, Nat.lt_of_lt_of_le hl hb.size, fun i hi => (hc i hi).under (hb.block b hl)⟩
theorem Recs.under {w w' : World} {v : Value} {rs : List Rec} (h : Recs w v rs) (hb : Below w.heap.size w w') : Recs w' v rs := by
  obtain ⟨a, cap, e, ha⟩ := h.shape
  exact ⟨⟨a, cap, e, ha.under hb⟩, h.ok, h.len⟩
theorem Recs.at {w : World} {a : Option Addr} {cap : Nat} {rs : List Rec} (h : RecsAt w a rs) (k : Nat) (hk : k < rs.length) : ∃ b off, a = some ⟨b, off, none⟩ ∧ b < w.heap.size ∧ RecCells w b (off + k * 3) rs[k] := by
  rcases h with h | ⟨b, off, e, hl, hc⟩
  · subst h; simp at hk
  · exact ⟨b, off, e, hl, hc k hk⟩

theorem take_all (p : Rec → Bool) (l : List Rec) (k : Nat) (h : k < l.length) : (l.take (k + 1)).all p = ((l.take k).all p && p l[k]) := by
  rw [List.take_succ_eq_append_getElem h, List.all_append]; simp
theorem take_any (p : Rec → Bool) (l : List Rec) (k : Nat) (h : k < l.length) : (l.take (k + 1)).any p = ((l.take k).any p || p l[k]) := by
  rw [List.take_succ_eq_append_getElem h, List.any_append]; simp
theorem all_no (p : Rec → Bool) (l : List Rec) (k : Nat) (h : k < l.length) (hp : p l[k] = false) : l.all p = false := by
  rw [List.all_eq_false]; exact ⟨l[k], List.getElem_mem h, by simp [hp]⟩
theorem any_yes (p : Rec → Bool) (l : List Rec) (k : Nat) (h : k < l.length) (hp : p l[k] = true) : l.any p = true := by
  rw [List.any_eq_true]; exact ⟨l[k], List.getElem_mem h, hp⟩

end Go.Proofs.YtcffomhcmilcpaaGreat.W

