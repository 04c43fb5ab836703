/- Seal and Unseal; what the file has of entries. -/
import Derived.Test.YtkdbclnnmpnfgaaH5
import Derived.Test.YtkdbclnnmpnfgaaH4
import Derived.Test.YtkdbclnnmpnfgaaRows
import Derived.Maps.OwnSet
import Derived.Maps.RangeWalk
import Derived.Maps.Ext
import Derived.Deep.RegionHeld3
import Derived.Deep.AppendLies
namespace Go.Proofs.Ytkdbclnnmpnfgaa
open Go.RowKit Go.Maps
set_option maxRecDepth 100000
set_option linter.unusedSimpArgs false
set_option linter.unusedVariables false

set_option maxHeartbeats 400000 in
theorem pfour_any (n : Nat) (w : World) (h : n < 4294967296) : Calls Try.prog 74 #[.int .i64 (n : Int)] w fun e w' => e = .returned (.string (strOf (fourL n))) ∧ Below w.heap.size w w' := by
  have hcv := four_conv w n h
  go_enter Try.func74, Try.ntmps74
  go_wp2
  go_ret
  exact ⟨rfl, (Below.refl _ _).alloc (Nat.le_refl _) _⟩

set_option maxHeartbeats 400000 in
theorem preadFour_any (s : ByteArray) (w : World) (h4 : 4 ≤ s.size) (hs : s.size ≤ maxLen) :
    Calls Try.prog 65 #[.string s] w fun e w' => e = .returned (.int .i64 (fourN s.data.toList : Nat)) ∧ w = w' := by
  unfold maxLen at hs
  go_enter Try.func65, Try.ntmps65
  go_wp2
  go_loop [3, 5] (fun c i => ∃ k : Nat, k ≤ 4 ∧ i = .int .i64 k ∧ c = .int .i64 (accN (s.data.toList.take k) : Nat)) (fun _ i => 4 - (intOf i).toNat)
  case atStart => exact ⟨0, Nat.zero_le _, rfl, rfl⟩
  case round =>
    obtain ⟨k, hk, rfl, rfl⟩ := hrel
    by_cases hlt : k < 4
    · have hlt' : (k : Int) < 4 := by omega
      have hA := accN_lt s k hk (by omega)
      have h3 : 256 ^ k ≤ 256 ^ 3 := Nat.pow_le_pow_right (by omega) (by omega)
      have hks : k < s.size := by omega
      have hks' : (k : Int) < (s.size : Int) := by omega
      have hsn : Hid (accN (s.data.toList.take (k + 1)) = accN (s.data.toList.take k) * 256 + s[k].toNat) := by show _ = _; rw [take_snoc s k hks, accN_snoc]
      have hA2 : accN (s.data.toList.take k) < 16777216 := by omega
      clear hA h3
      generalize accN (s.data.toList.take k) = A at *
      have hb := s[k].toNat_lt
      have hor := or_byte A s[k].toNat hA2 (by omega)
      generalize hZ : A * 256 + s[k].toNat = Z at *
      clear hZ
      go_wp2
      go_round
      case rel => exact ⟨k + 1, by omega, by go_num, by rw [hsn.out]⟩
      case measure => simp [intOf]; omega
    · have hlt' : ¬ (k : Int) < 4 := by omega
      have hk4 : k = 4 := by omega
      have HF := hid (accN_four s.data.toList (by simpa using h4))
      subst hk4
      go_wp2
      go_ret
      exact ⟨ret_int (by rw [HF.out]), rfl⟩

set_option maxHeartbeats 400000 in
theorem pseal_any (t : List UInt8) (w : World) (h : t.length ≤ 1000000) : Calls Try.prog 51 #[.string (strOf t)] w fun e w' => e = .returned (.string (strOf (sealL t))) ∧ Below w.heap.size w w' := by
  have HC := hid (crc_any (strOf t) w (by rw [strOf_size]; unfold maxLen; omega))
  rw [strOf_data] at HC
  have HF := hid (pfour_any (crcL t) w (crcL_lt t))
  have hsz := strOf_size t
  have hsz4 := strOf_size (fourL (crcL t))
  have h4 : (fourL (crcL t)).length = 4 := rfl
  have HA := hid (strOf_append (fourL (crcL t)) t)
  go_enter Try.func51, Try.ntmps51
  go_wp2_with (first | (go_at_call 66; refine HC.out.mono ?_; rintro e w1 ⟨rfl, rfl⟩) | (go_at_call 74; refine HF.out.mono ?_; rintro e w2 ⟨rfl, hb2⟩))
  go_ret
  exact ⟨by rw [HA.out]; rfl, hb2⟩
set_option maxHeartbeats 800000 in
theorem punseal_any (b : List UInt8) (w : World) (h : b.length ≤ 100000000) : Calls Try.prog 42 #[.string (strOf b)] w fun e w' =>
    e = .returned (if b.length < 4 then .tuple #[.string ⟨#[]⟩, .int .i64 5] else if fourN b ≠ crcL (b.drop 4) then .tuple #[.string ⟨#[]⟩, .int .i64 6] else .tuple #[.string (strOf (b.drop 4)), .int .i64 0]) ∧ w' = w := by
  have hsz := strOf_size b
  by_cases h4 : b.length < 4
  · rw [if_pos h4]
    have h4' : ((strOf b).size : Int) < 4 := by omega
    have h4'' : (b.length : Int) < 4 := by omega
    go_enter Try.func42, Try.ntmps42
    go_wp2
    go_ret2
    exact ⟨rfl, rfl⟩
  · rw [if_neg h4]
    have h4' : ¬ ((strOf b).size : Int) < 4 := by omega
    have h4'' : ¬ (b.length : Int) < 4 := by omega
    have hx := extract_drop b 4
    have HR := hid (preadFour_any (strOf b) w (by omega) (by unfold maxLen; omega))
    rw [strOf_data] at HR
    have HC := hid (crc_any (strOf (b.drop 4)) w (by rw [strOf_size]; simp; unfold maxLen; omega))
    rw [strOf_data] at HC
    have h5 : (4 : Int) ≤ ((strOf b).size : Int) := by omega
    have h5' : (4 : Int) ≤ (b.length : Int) := by omega
    generalize crcL (b.drop 4) = C at *
    generalize fourN b = F at *
    by_cases he : F = C
    · subst he
      rw [if_neg (fun h => h rfl)]
      go_enter Try.func42, Try.ntmps42
      go_wp2_with (first | (go_at_call 65; refine HR.out.mono ?_; rintro e w1 ⟨rfl, rfl⟩) | (go_at_call 66; refine HC.out.mono ?_; rintro e w1 ⟨rfl, rfl⟩))
      go_ret2
      exact ⟨rfl, rfl⟩
    · rw [if_pos he]
      have hne : ((F : Int) != (C : Int)) = true := by simp; omega
      go_enter Try.func42, Try.ntmps42
      go_wp2_with (first | (go_at_call 65; refine HR.out.mono ?_; rintro e w1 ⟨rfl, rfl⟩) | (go_at_call 66; refine HC.out.mono ?_; rintro e w1 ⟨rfl, rfl⟩))
      go_ret2
      exact ⟨rfl, rfl⟩

end Go.Proofs.Ytkdbclnnmpnfgaa

/- ReadBatch of wire. -/
namespace Go.Proofs.Ytkdbclnnmpnfgaa
open Go.RowKit Go.Maps
set_option linter.unusedSimpArgs false
set_option linter.unusedVariables false
set_option maxRecDepth 100000

theorem recs_nil (w : World) : Recs w (.slice none 0 0) [] := ⟨⟨none, 0, rfl, .inl rfl⟩, by simp, by simp⟩
theorem Recs.off {w w' : World} {v : Value} {rs : List Rec} (h : Recs w v rs) (hk : ∀ q, v.ownBlock = some q → w'.heap[q]? = w.heap[q]?) (hs : w.heap.size ≤ w'.heap.size) : Recs w' v rs := by
  obtain ⟨a, cap, e, ha⟩ := h.shape
  refine ⟨⟨a, cap, e, ?_⟩, h.ok, h.len⟩
  rcases ha with ha | ⟨b, off, e2, hl, hc⟩
  · exact .inl ha
  · exact .inr ⟨b, off, e2, Nat.lt_of_lt_of_le hl hs, fun i hi => (hc i hi).under (hk b (by rw [e, e2]; rfl))⟩
theorem extract_mid (l : List UInt8) (a n : Nat) : (strOf l).extract a (a + n) = strOf ((l.drop a).take n) := by
  rw [Lib.extract_eq, strOf_data, Nat.add_sub_cancel_left]
  rfl

theorem six_below {B : Nat} {w W : World} {b : Nat} (h : Below B w W) (hb : B ≤ b) (u0 u1 u2 u3 u4 u5 : Value) : Below B w ((((((W.setCell ⟨b, 0, none⟩ u0).setCell ⟨b, 1, none⟩ u1).setCell ⟨b, 2, none⟩ u2).setCell ⟨b, 3, none⟩ u3).setCell ⟨b, 4, none⟩ u4).setCell ⟨b, 5, none⟩ u5) :=
  (((((h.setCell hb _).setCell hb _).setCell hb _).setCell hb _).setCell hb _).setCell hb _

theorem Boxed.drewN {w W : World} {O : Obj} (h : Boxed w W O) (n : Nat) : Boxed w (W.drewN n) O := ⟨below_drewN h.below n, h.box⟩
theorem six_frozen {w W : World} {cs : Array Value} {T : TypeId} (h : Boxed w W (.cells cs T)) : W.frozen? ⟨w.heap.size, 0, none⟩ = false ∧ W.frozen? ⟨w.heap.size, 1, none⟩ = false ∧ W.frozen? ⟨w.heap.size, 2, none⟩ = false ∧ W.frozen? ⟨w.heap.size, 3, none⟩ = false ∧ W.frozen? ⟨w.heap.size, 4, none⟩ = false ∧ W.frozen? ⟨w.heap.size, 5, none⟩ = false :=
  ⟨frozen_blk h.box 0, frozen_blk h.box 1, frozen_blk h.box 2, frozen_blk h.box 3, frozen_blk h.box 4, frozen_blk h.box 5⟩

theorem set_box {W : World} {q : Nat} {cs : Array Value} {T : TypeId} {j : Nat} {u : Value} (h : W.heap[q]? = some (.cells cs T)) : (W.setCell ⟨q, j, none⟩ u).heap[q]? = some (.cells (cs.setIfInBounds j u) T) := by
  rw [setCell_eq_setRow W q j _ T (0, 0) _ h, setRow_heap W q _ _ T (0, 0) h]
theorem six_size (W : World) (b : Nat) (u0 u1 u2 u3 u4 u5 : Value) : ((((((W.setCell ⟨b, 0, none⟩ u0).setCell ⟨b, 1, none⟩ u1).setCell ⟨b, 2, none⟩ u2).setCell ⟨b, 3, none⟩ u3).setCell ⟨b, 4, none⟩ u4).setCell ⟨b, 5, none⟩ u5).heap.size = W.heap.size := by simp [World.setCell]
theorem Boxed.six {w W : World} {a0 a1 a2 a3 a4 a5 : Value} {T : TypeId} (h : Boxed w W (.cells #[a0, a1, a2, a3, a4, a5] T)) (u0 u1 u2 u3 u4 u5 : Value) : Boxed w ((((((W.setCell ⟨w.heap.size, 0, none⟩ u0).setCell ⟨w.heap.size, 1, none⟩ u1).setCell ⟨w.heap.size, 2, none⟩ u2).setCell ⟨w.heap.size, 3, none⟩ u3).setCell ⟨w.heap.size, 4, none⟩ u4).setCell ⟨w.heap.size, 5, none⟩ u5) (.cells #[u0, u1, u2, u3, u4, u5] T) := by
  refine ⟨six_below h.below (Nat.le_refl _) _ _ _ _ _ _, ?_⟩
  exact set_box (j := 5) (u := u5) (set_box (j := 4) (u := u4) (set_box (j := 3) (u := u3) (set_box (j := 2) (u := u2) (set_box (j := 1) (u := u1) (set_box (j := 0) (u := u0) h.box)))))
theorem six_keep2 (wr : World) (b q : Nat) (u0 u1 u2 u3 u4 u5 : Value) (h : q ≠ b) : ((((((wr.setCell ⟨b, 0, none⟩ u0).setCell ⟨b, 1, none⟩ u1).setCell ⟨b, 2, none⟩ u2).setCell ⟨b, 3, none⟩ u3).setCell ⟨b, 4, none⟩ u4).setCell ⟨b, 5, none⟩ u5).heap[q]? = wr.heap[q]? := by
  have hs : ∀ (W : World) (j : Nat) (u : Value), (W.setCell ⟨b, j, none⟩ u).heap[q]? = W.heap[q]? := fun W j u => Below.heap_setCell W ⟨b, j, none⟩ u q h
  rw [hs, hs, hs, hs, hs, hs]

end Go.Proofs.Ytkdbclnnmpnfgaa

/- Producers' notes without memory: what follows, what is found, what is left of them. -/
namespace Go.Proofs.Ytkdbclnnmpnfgaa
set_option linter.unusedSimpArgs false
set_option linter.unusedVariables false

structure Nt where
  ep : Int
  seq : Int
  n : Int
  off : Int

structure NtOk (x : Nt) : Prop where
  ep : 0 ≤ x.ep ∧ x.ep ≤ 1000000000
  n : 1 ≤ x.n ∧ x.n ≤ 64
  seq : 0 ≤ x.seq ∧ x.seq ≤ 1000000 - (x.n - 1)
  off : 0 ≤ x.off ∧ x.off ≤ 1000000000 - (x.n - 1)

def Aft (x y : Nt) : Prop := x.off < y.off ∧ x.ep ≤ y.ep ∧ (x.ep = y.ep → x.seq + x.n ≤ y.seq)
theorem aft_trans {x y z : Nt} (h1 : Aft x y) (h2 : Aft y z) (hy : NtOk y) : Aft x z := by
  obtain ⟨a1, a2, a3⟩ := h1
  obtain ⟨b1, b2, b3⟩ := h2
  have hn := hy.n
  refine ⟨by omega, by omega, fun e => ?_⟩
  have := a3 (by omega)
  have := b3 (by omega)
  omega

structure LOk (l : List Nt) : Prop where
  all : ∀ x ∈ l, NtOk x
  chain : l.Pairwise Aft
theorem LOk.nil : LOk [] := ⟨(fun x h => by cases h), List.Pairwise.nil⟩

/-- May x stand behind the notes? -/
def folB (l : List Nt) (x : Nt) : Bool :=
  match l[l.length - 1]? with
  | none => true
  | some y => decide (y.off < x.off) && decide (y.ep ≤ x.ep) && (decide (y.ep < x.ep) || decide (y.seq + y.n ≤ x.seq))
theorem folB_nil (x : Nt) : folB [] x = true := rfl
theorem folB_some {l : List Nt} {x y : Nt} (h : l[l.length - 1]? = some y) : folB l x = (decide (y.off < x.off) && decide (y.ep ≤ x.ep) && (decide (y.ep < x.ep) || decide (y.seq + y.n ≤ x.seq))) := by
  unfold folB; rw [h]

theorem last_cases (l : List Nt) : l = [] ∨ ∃ m y, l = m ++ [y] := by
  rcases List.eq_nil_or_concat l with h | ⟨m, y, h⟩
  · exact .inl h
  · exact .inr ⟨m, y, by simpa using h⟩
theorem last_append (m : List Nt) (y : Nt) : (m ++ [y])[(m ++ [y]).length - 1]? = some y := by simp
theorem last_none {l : List Nt} (h : l[l.length - 1]? = none) : l = [] := by
  rcases last_cases l with rfl | ⟨m, y, rfl⟩
  · rfl
  · rw [last_append] at h; cases h

theorem LOk.snoc {l : List Nt} {x : Nt} (h : LOk l) (hx : NtOk x) (hf : folB l x = true) : LOk (l ++ [x]) := by
  refine ⟨fun y hy => ?_, ?_⟩
  · rcases List.mem_append.1 hy with hy | hy
    · exact h.all y hy
    · simp at hy; subst hy; exact hx
  · rcases last_cases l with rfl | ⟨m, y, rfl⟩
    · simp
    · rw [folB_some (last_append m y)] at hf
      simp at hf
      obtain ⟨⟨h1, h2⟩, h3⟩ := hf
      have hyx : Aft y x := ⟨h1, h2, fun e => by omega⟩
      have hc := List.pairwise_append.1 h.chain
      refine List.pairwise_append.2 ⟨h.chain, List.pairwise_singleton _ _, fun z hz w hw => ?_⟩
      simp at hw; subst hw
      rcases List.mem_append.1 hz with hz | hz
      · exact aft_trans (hc.2.2 z hz y (by simp)) hyx (h.all y (by simp))
      · simp at hz; subst hz; exact hyx
theorem LOk.sub {l m : List Nt} (h : LOk l) (hs : List.Sublist m l) : LOk m := ⟨fun x hx => h.all x (hs.subset hx), h.chain.sublist hs⟩
theorem LOk.at_lt {l : List Nt} (h : LOk l) {i j : Nat} {x y : Nt} (hx : l[i]? = some x) (hy : l[j]? = some y) (hij : i < j) : Aft x y := by
  have hi := (List.getElem?_eq_some_iff.1 hx)
  have hj := (List.getElem?_eq_some_iff.1 hy)
  obtain ⟨hi1, rfl⟩ := hi
  obtain ⟨hj1, rfl⟩ := hj
  exact List.pairwise_iff_getElem.1 h.chain i j hi1 hj1 hij

theorem filter_take_any {α : Type} (l : List α) (q : α → Bool) (r : Nat) (h : ∀ (i : Nat) x, l[i]? = some x → (q x = true ↔ i < r)) : l.filter q = l.take r := by
  conv => lhs; rw [← List.take_append_drop r l]
  rw [List.filter_append]
  have h1 : (l.take r).filter q = l.take r := List.filter_eq_self.2 (fun x hx => by
    obtain ⟨i, hi, e⟩ := List.getElem_of_mem hx
    rw [List.length_take] at hi
    exact (h i x (by rw [← e, List.getElem_take]; simp <;> omega)).2 (by omega))
  have h2 : (l.drop r).filter q = [] := List.filter_eq_nil_iff.2 (fun x hx => by
    obtain ⟨i, hi, e⟩ := List.getElem_of_mem hx
    rw [List.length_drop] at hi
    intro hq
    have := (h (r + i) x (by rw [← e, List.getElem_drop]; simp <;> omega)).1 hq
    omega)
  rw [h1, h2, List.append_nil]
theorem filter_drop_any {α : Type} (l : List α) (q : α → Bool) (r : Nat) (h : ∀ (i : Nat) x, l[i]? = some x → (q x = true ↔ r ≤ i)) : l.filter q = l.drop r := by
  conv => lhs; rw [← List.take_append_drop r l]
  rw [List.filter_append]
  have h1 : (l.drop r).filter q = l.drop r := List.filter_eq_self.2 (fun x hx => by
    obtain ⟨i, hi, e⟩ := List.getElem_of_mem hx
    rw [List.length_drop] at hi
    exact (h (r + i) x (by rw [← e, List.getElem_drop]; simp <;> omega)).2 (by omega))
  have h2 : (l.take r).filter q = [] := List.filter_eq_nil_iff.2 (fun x hx => by
    obtain ⟨i, hi, e⟩ := List.getElem_of_mem hx
    rw [List.length_take] at hi
    intro hq
    have := (h i x (by rw [← e, List.getElem_take]; simp <;> omega)).1 hq
    omega)
  rw [h1, h2, List.nil_append]

def cutN (N : Int) (l : List Nt) : List Nt := l.filter fun x => decide (x.off < N)
def restN (N : Int) (l : List Nt) : List Nt := l.filter fun x => !decide (x.off < N)

/-- Where halving comes out. -/
structure HalfAt (l : List Nt) (N : Int) (r : Nat) : Prop where
  le : r ≤ l.length
  lo : r = 0 ∨ ∀ x, l[r - 1]? = some x → x.off < N
  hi : r = l.length ∨ ∀ x, l[r]? = some x → N ≤ x.off
theorem HalfAt.iff {l : List Nt} {N : Int} {r : Nat} (h : HalfAt l N r) (hl : LOk l) (i : Nat) (x : Nt) (hx : l[i]? = some x) : x.off < N ↔ i < r := by
  have hi := (List.getElem?_eq_some_iff.1 hx).1
  have hle := h.le
  constructor
  · intro hN
    rcases Nat.lt_or_ge i r with h1 | h1
    · exact h1
    · exfalso
      rcases h.hi with e | h2
      · omega
      · have hr : l[r]? = some l[r] := List.getElem?_eq_getElem (by omega)
        have h3 := h2 _ hr
        rcases Nat.eq_or_lt_of_le h1 with e | h4
        · subst e; rw [hr] at hx; have e2 := congrArg Nt.off (Option.some.inj hx); omega
        · have := (hl.at_lt hr hx h4).1; omega
  · intro h1
    rcases h.lo with e | h2
    · omega
    · have hr : l[r - 1]? = some l[r - 1] := List.getElem?_eq_getElem (by omega)
      have h3 := h2 _ hr
      rcases Nat.eq_or_lt_of_le (show i ≤ r - 1 by omega) with e | h4
      · subst e; rw [hr] at hx; cases hx; omega
      · have := (hl.at_lt hx hr h4).1; omega
theorem HalfAt.cut {l : List Nt} {N : Int} {r : Nat} (h : HalfAt l N r) (hl : LOk l) : cutN N l = l.take r :=
  filter_take_any _ _ _ fun i x hx => by rw [← h.iff hl i x hx]; simp
theorem HalfAt.rest {l : List Nt} {N : Int} {r : Nat} (h : HalfAt l N r) (hl : LOk l) : restN N l = l.drop r :=
  filter_drop_any _ _ _ fun i x hx => by have := h.iff hl i x hx; simp; omega

def lastEp (l : List Nt) : Int := match l[l.length - 1]? with | some y => y.ep | none => -1
/-- Of notes: the last ones of the latest epoch. -/
def keepL (a : List Nt) : List Nt := (a.drop (a.length - 5)).filter fun x => decide (x.ep = lastEp a)
def shortL (N : Int) (l : List Nt) : List Nt := keepL (cutN N l) ++ restN N l

theorem lastEp_le {l : List Nt} (h : LOk l) {i : Nat} {x : Nt} (hx : l[i]? = some x) : x.ep ≤ lastEp l := by
  have hi := (List.getElem?_eq_some_iff.1 hx).1
  have hr : l[l.length - 1]? = some l[l.length - 1] := List.getElem?_eq_getElem (by omega)
  have e : lastEp l = l[l.length - 1].ep := by unfold lastEp; rw [hr]
  rw [e]
  rcases Nat.eq_or_lt_of_le (show i ≤ l.length - 1 by omega) with e | h4
  · subst e; rw [hr] at hx; cases hx; omega
  · exact (h.at_lt hx hr h4).2.1

theorem keepL_eq {a : List Nt} (h : LOk a) (f : Nat) (hf : f ≤ a.length) (h5 : a.length - f ≤ 5) (hs : ∀ (i : Nat) x, f ≤ i → a[i]? = some x → x.ep = lastEp a)
    (he : f = 0 ∨ a.length - f = 5 ∨ ∃ x, a[f - 1]? = some x ∧ x.ep ≠ lastEp a) : keepL a = a.drop f := by
  unfold keepL
  have hd := filter_drop_any (a.drop (a.length - 5)) (fun x => decide (x.ep = lastEp a)) (f - (a.length - 5)) (fun i x hx => by
    rw [List.getElem?_drop] at hx
    simp only [decide_eq_true_eq]
    constructor
    · intro hq
      rcases Nat.lt_or_ge i (f - (a.length - 5)) with hlt | hge
      · exfalso
        rcases he with e | e | ⟨y, hy, hne⟩
        · omega
        · omega
        · have hyl := lastEp_le h hy
          rcases Nat.eq_or_lt_of_le (show a.length - 5 + i ≤ f - 1 by omega) with e | h4
          · rw [e, hy] at hx; cases hx; exact hne hq
          · have := (h.at_lt hx hy h4).2.1
            omega
      · exact hge
    · intro hge
      exact hs (a.length - 5 + i) x (by omega) hx)
  rw [hd, List.drop_drop]
  congr 1
  omega

/- What is found. -/
def nextL (l : List Nt) (ep : Int) : Int := match l[l.length - 1]? with | none => 0 | some y => if ep = y.ep then y.seq + y.n else 0
def isRun (ep seq n : Int) (x : Nt) : Bool := decide (x.ep = ep) && decide (x.seq = seq) && decide (x.n = n)
def hitL (l : List Nt) (ep seq n : Int) : Option Nt := (l.drop (l.length - 5)).find? (isRun ep seq n)
def oldB (l : List Nt) (ep : Int) : Bool := match l[l.length - 1]? with | none => false | some y => decide (ep < y.ep)
def findL (l : List Nt) (ep seq n : Int) : Int × Int :=
  if oldB l ep = true then (-1, 13)
  else match hitL l ep seq n with
    | some x => (x.off, 0)
    | none => if seq = nextL l ep then (-1, 0) else if nextL l ep < seq then (-1, 11) else (-1, 12)
def argB (pid ep seq n : Int) : Bool := inB pid && inB ep && inB seq && (decide (1 ≤ n) && decide (n ≤ 64)) && !(decide (pid = 0) && (!decide (ep = 0) || !decide (seq = 0)))
def askL (l : List Nt) (pid ep seq n : Int) : Int × Int :=
  if argB pid ep seq n = false then (-1, 1)
  else if pid = 0 then (-1, 0)
  else if 1000000 - (n - 1) < seq then (-1, 20)
  else findL l ep seq n

/- Tables: producers by rising ids. -/
abbrev Tb := List (Int × List Nt)
def tget (T : Tb) (pid : Int) : List Nt := match T.find? (fun p => p.1 == pid) with | some p => p.2 | none => []
def tins (x : Int × List Nt) : Tb → Tb
  | [] => [x]
  | y :: r => if x.1 < y.1 then x :: y :: r else y :: tins x r
def tput (T : Tb) (pid : Int) (l : List Nt) : Tb := tins (pid, l) (T.filter fun p => !(p.1 == pid))
def turnT (f : List Nt → List Nt) (T : Tb) : Tb := (T.map fun p => (p.1, f p.2)).filter fun p => !p.2.isEmpty
def cntT : Tb → Nat
  | [] => 0
  | p :: r => p.2.length + cntT r
structure TOk (T : Tb) : Prop where
  each : ∀ p ∈ T, (1 ≤ p.1 ∧ p.1 ≤ 1000000000) ∧ p.2 ≠ [] ∧ LOk p.2
  rise : T.Pairwise (fun p q => p.1 < q.1)
  few : cntT T ≤ 100000
theorem TOk.nil : TOk [] := ⟨(fun p h => by cases h), List.Pairwise.nil, by simp [cntT]⟩

theorem cntT_len : ∀ (T : Tb), (∀ p ∈ T, p.2 ≠ []) → T.length ≤ cntT T
  | [], _ => Nat.le_refl _
  | p :: r, h => by
    have := cntT_len r (fun q hq => h q (by simp [hq]))
    have h1 := List.length_pos_iff.2 (h p (by simp))
    simp only [List.length_cons, cntT]; omega
theorem cntT_mem : ∀ (T : Tb) (p : Int × List Nt), p ∈ T → p.2.length ≤ cntT T
  | [], _, h => by cases h
  | q :: r, p, h => by
    rcases List.mem_cons.1 h with rfl | h
    · simp [cntT]
    · have := cntT_mem r p h; simp only [cntT]; omega
theorem TOk.len {T : Tb} (h : TOk T) : T.length ≤ 100000 := Nat.le_trans (cntT_len T fun p hp => (h.each p hp).2.1) h.few
theorem tget_mem {T : Tb} {pid : Int} (h : tget T pid ≠ []) : (pid, tget T pid) ∈ T := by
  unfold tget at h ⊢
  cases hf : T.find? (fun p => p.1 == pid) with
  | none => rw [hf] at h; exact absurd rfl h
  | some p =>
    have h1 := List.mem_of_find?_eq_some hf
    have h2 := List.find?_some hf
    simp at h2
    simp only
    rw [← h2]
    exact h1
theorem TOk.get {T : Tb} (h : TOk T) (pid : Int) : LOk (tget T pid) ∧ (tget T pid).length ≤ cntT T := by
  by_cases he : tget T pid = []
  · rw [he]; exact ⟨LOk.nil, by simp⟩
  · have hm := tget_mem he
    exact ⟨(h.each _ hm).2.2, cntT_mem T _ hm⟩
theorem tget_of_mem {T : Tb} (h : T.Pairwise (fun p q => p.1 < q.1)) {p : Int × List Nt} (hp : p ∈ T) : tget T p.1 = p.2 := by
  unfold tget
  cases hf : T.find? (fun q => q.1 == p.1) with
  | none => have := List.find?_eq_none.1 hf p hp; simp at this
  | some q =>
    have h1 := List.mem_of_find?_eq_some hf
    have h2 := List.find?_some hf
    simp at h2
    simp only
    have hne := h.imp (fun {a b} hab => show a.1 ≠ b.1 by omega)
    by_cases e : q = p
    · rw [e]
    · exfalso
      obtain ⟨i, hi, e1⟩ := List.getElem_of_mem h1
      obtain ⟨j, hj, e2⟩ := List.getElem_of_mem hp
      rcases Nat.lt_trichotomy i j with h3 | h3 | h3
      · have := List.pairwise_iff_getElem.1 h i j hi hj h3; rw [e1, e2] at this; omega
      · subst h3; rw [e1] at e2; exact e e2
      · have := List.pairwise_iff_getElem.1 h j i hj hi h3; rw [e1, e2] at this; omega
theorem mem_tins (x p : Int × List Nt) : ∀ T : Tb, p ∈ tins x T ↔ p = x ∨ p ∈ T
  | [] => by simp [tins]
  | y :: r => by
    unfold tins
    split
    · simp
    · simp [mem_tins x p r]
      constructor
      · rintro (h | h | h) <;> simp [h]
      · rintro (h | h | h) <;> simp [h]
theorem mem_tput (T : Tb) (pid : Int) (l : List Nt) (p : Int × List Nt) : p ∈ tput T pid l ↔ p = (pid, l) ∨ (p ∈ T ∧ p.1 ≠ pid) := by
  unfold tput
  rw [mem_tins]
  simp
theorem cntT_tins (x : Int × List Nt) : ∀ T : Tb, cntT (tins x T) = x.2.length + cntT T
  | [] => rfl
  | y :: r => by
    unfold tins
    split
    · rfl
    · simp only [cntT, cntT_tins x r]; omega
theorem cntT_del (pid : Int) : ∀ T : Tb, cntT (T.filter fun p => !(p.1 == pid)) + (tget T pid).length ≤ cntT T
  | [] => by simp [cntT, tget]
  | p :: r => by
    have ih := cntT_del pid r
    unfold tget at ih ⊢
    simp only [List.filter_cons, List.find?_cons]
    cases hp : p.1 == pid
    · simp only [Bool.not_false, if_true, cntT]; omega
    · simp only [Bool.not_true, Bool.false_eq_true, if_false, cntT]; omega
theorem rise_tins (x : Int × List Nt) : ∀ T : Tb, T.Pairwise (fun p q => p.1 < q.1) → (∀ p ∈ T, p.1 ≠ x.1) → (tins x T).Pairwise (fun p q => p.1 < q.1)
  | [], _, _ => by simp [tins]
  | y :: r, h, hx => by
    have h' := List.pairwise_cons.1 h
    have hy := hx y (by simp)
    unfold tins
    split
    · rename_i hlt
      refine List.Pairwise.cons (fun p hp => ?_) h
      rcases List.mem_cons.1 hp with rfl | hp
      · exact hlt
      · have := h'.1 p hp; omega
    · rename_i hlt
      refine List.Pairwise.cons (fun p hp => ?_) (rise_tins x r h'.2 (fun p hp => hx p (by simp [hp])))
      rcases (mem_tins x p r).1 hp with rfl | hp
      · omega
      · exact h'.1 p hp
theorem TOk.put {T : Tb} (h : TOk T) {pid : Int} (hp : 1 ≤ pid ∧ pid ≤ 1000000000) {l : List Nt} (hl : LOk l) (hne : l ≠ []) (hc : cntT T + l.length ≤ (tget T pid).length + 100000) : TOk (tput T pid l) := by
  refine ⟨fun p hp2 => ?_, rise_tins _ _ (h.rise.filter _) (fun p hp2 => ?_), ?_⟩
  · rcases (mem_tput _ _ _ _).1 hp2 with rfl | ⟨h1, _⟩
    · exact ⟨hp, hne, hl⟩
    · exact h.each p h1
  · have := (List.mem_filter.1 hp2).2
    simpa using this
  · unfold tput
    rw [cntT_tins]
    have := cntT_del pid T
    simp only
    omega
theorem mem_turnT (f : List Nt → List Nt) (T : Tb) (p : Int × List Nt) : p ∈ turnT f T ↔ p.2 ≠ [] ∧ ∃ q ∈ T, q.1 = p.1 ∧ f q.2 = p.2 := by
  unfold turnT
  simp only [List.mem_filter, List.mem_map, Bool.not_eq_true']
  constructor
  · rintro ⟨⟨q, hq, rfl⟩, h⟩
    exact ⟨by simpa using h, q, hq, rfl, rfl⟩
  · rintro ⟨h, q, hq, h1, h2⟩
    refine ⟨⟨q, hq, by rw [h1, h2]⟩, by simpa using h⟩
theorem cntT_turn (f : List Nt → List Nt) (hf : ∀ l, LOk l → (f l).length ≤ l.length) : ∀ T : Tb, (∀ p ∈ T, LOk p.2) → cntT (turnT f T) ≤ cntT T
  | [], _ => Nat.le_refl _
  | p :: r, h => by
    have ih := cntT_turn f hf r (fun q hq => h q (by simp [hq]))
    have h1 := hf p.2 (h p (by simp))
    unfold turnT at ih ⊢
    simp only [List.map_cons, List.filter_cons]
    split
    · simp only [cntT]; omega
    · simp only [cntT]; omega
theorem TOk.turn {T : Tb} (h : TOk T) (f : List Nt → List Nt) (hf : ∀ l, LOk l → LOk (f l) ∧ (f l).length ≤ l.length) : TOk (turnT f T) := by
  refine ⟨fun p hp => ?_, ?_, Nat.le_trans (cntT_turn f (fun l hl => (hf l hl).2) T (fun p hp => (h.each p hp).2.2)) h.few⟩
  · obtain ⟨h1, q, hq, h2, h3⟩ := (mem_turnT f T p).1 hp
    have := h.each q hq
    exact ⟨by rw [← h2]; exact this.1, h1, by rw [← h3]; exact (hf _ this.2.2).1⟩
  · unfold turnT
    refine List.Pairwise.filter _ ?_
    rw [List.pairwise_map]
    exact h.rise.imp fun h => h
/-- Two tables with the same producers are one. -/
theorem rise_ext : ∀ (l m : Tb), l.Pairwise (fun p q => p.1 < q.1) → m.Pairwise (fun p q => p.1 < q.1) → (∀ x, x ∈ l ↔ x ∈ m) → l = m
  | [], [], _, _, _ => rfl
  | [], y :: s, _, _, h => by have := (h y).2 (by simp); cases this
  | x :: r, [], _, _, h => by have := (h x).1 (by simp); cases this
  | x :: r, y :: s, hl, hm, h => by
    have hl' := List.pairwise_cons.1 hl
    have hm' := List.pairwise_cons.1 hm
    have hxy : x = y := by
      rcases List.mem_cons.1 ((h x).1 (by simp)) with e | hx
      · exact e
      · rcases List.mem_cons.1 ((h y).2 (by simp)) with e | hy
        · exact e.symm
        · have a1 := hm'.1 x hx
          have a2 := hl'.1 y hy
          omega
    subst hxy
    refine congrArg _ (rise_ext r s hl'.2 hm'.2 (fun z => ?_))
    constructor
    · intro hz
      rcases List.mem_cons.1 ((h z).1 (by simp [hz])) with e | h2
      · have := hl'.1 z hz; rw [e] at this; omega
      · exact h2
    · intro hz
      rcases List.mem_cons.1 ((h z).2 (by simp [hz])) with e | h2
      · have := hm'.1 z hz; rw [e] at this; omega
      · exact h2
theorem cut_ok (N : Int) (l : List Nt) (h : LOk l) : LOk (cutN N l) ∧ (cutN N l).length ≤ l.length := ⟨h.sub List.filter_sublist, List.length_filter_le _ _⟩
end Go.Proofs.Ytkdbclnnmpnfgaa

/- A table of producers' notes in memory: its block, its map, a row of notes for each producer. -/
namespace Go.Proofs.Ytkdbclnnmpnfgaa
open Go.RowKit Go.Maps
set_option maxRecDepth 100000
set_option linter.unusedSimpArgs false
set_option linter.unusedVariables false

theorem wf_of {k : Int} (h : I64 k) : (Lit.int .i64 k).wf = true := WalkArith.wf_i64 h
theorem law3 : Keyed Try.prog 3 := int_keyed Try.underlying3
theorem zero60 (w : World) : (zeroValue 60).run Try.prog w = .ok (.slice none 0 0) w := by kernel_rfl

def flatN : List Nt → List Value
  | [] => []
  | x :: r => [.int .i64 x.ep, .int .i64 x.seq, .int .i64 x.n, .int .i64 x.off] ++ flatN r
theorem flatN_length : ∀ l : List Nt, (flatN l).length = l.length * 4
  | [] => rfl
  | m :: r => by simp [flatN, flatN_length r]; omega
theorem flatN_append : ∀ l m : List Nt, flatN (l ++ m) = flatN l ++ flatN m
  | [], m => rfl
  | x :: r, m => by simp [flatN, flatN_append r m]
theorem flatN_at : ∀ (l : List Nt) (i : Nat) (m : Nt), l[i]? = some m → (flatN l)[i * 4]? = some (.int .i64 m.ep) ∧ (flatN l)[i * 4 + 1]? = some (.int .i64 m.seq) ∧ (flatN l)[i * 4 + 2]? = some (.int .i64 m.n) ∧ (flatN l)[i * 4 + 3]? = some (.int .i64 m.off)
  | [], i, m, h => by simp at h
  | y :: r, 0, m, h => by simp at h; subst h; simp [flatN]
  | y :: r, i + 1, m, h => by
    have ih := flatN_at r i m (by simpa using h)
    have e : ∀ j, (flatN (y :: r))[(i + 1) * 4 + j]? = (flatN r)[i * 4 + j]? := fun j => by
      have e1 : (i + 1) * 4 + j = 4 + (i * 4 + j) := by omega
      rw [e1]
      show ([_, _, _, _] ++ flatN r)[4 + (i * 4 + j)]? = _
      rw [List.getElem?_append_right (by simp)]
      congr 1
      simp
    refine ⟨?_, ?_, ?_, ?_⟩
    · have := e 0; simp only [Nat.add_zero] at this; rw [this]; exact ih.1
    · rw [e 1]; exact ih.2.1
    · rw [e 2]; exact ih.2.2.1
    · rw [e 3]; exact ih.2.2.2
theorem flatN_one : ∀ (l : List Nt), ∀ u ∈ flatN l, u.oneCell' = true
  | [], u, h => by simp [flatN] at h
  | x :: r, u, h => by
    simp [flatN] at h
    rcases h with rfl | rfl | rfl | rfl | h
    · rfl
    · rfl
    · rfl
    · rfl
    · exact flatN_one r u h
theorem flatN_take : ∀ (l : List Nt) (k : Nat), flatN (l.take k) = (flatN l).take (k * 4)
  | [], k => by simp [flatN]
  | x :: r, 0 => by simp [flatN]
  | x :: r, k + 1 => by
    have e : (k + 1) * 4 = k * 4 + 1 + 1 + 1 + 1 := by omega
    rw [e]
    simp [flatN, flatN_take r k]
theorem flatN_drop : ∀ (l : List Nt) (k : Nat), flatN (l.drop k) = (flatN l).drop (k * 4)
  | [], k => by simp [flatN]
  | x :: r, 0 => by simp [flatN]
  | x :: r, k + 1 => by
    have e : (k + 1) * 4 = k * 4 + 1 + 1 + 1 + 1 := by omega
    rw [e]
    simp [flatN, flatN_drop r k]
theorem info64 : ∃ i, Try.prog.info? 64 = some i ∧ i.zero = some (.agg #[.int .i64 0, .int .i64 0, .int .i64 0, .int .i64 0]) ∧ i.size = 4 ∧ i.bytes = 32 := ⟨_, rfl, rfl, rfl, rfl⟩

/-- Notes in memory. -/
def NL (w : World) (v : Value) (l : List Nt) : Prop := w.ownsRow 0 64 4 v l.length (flatN l)
theorem add_lit0 (g j : Nat) : (⟨g, 0, none⟩ : Addr).add j = ⟨g, j, none⟩ := by unfold Addr.add; split <;> simp_all
theorem NL.nil (w : World) : NL w (.slice none 0 0) [] := ⟨rfl, .inl ⟨rfl, rfl⟩⟩
theorem NL.shape {w : World} {v : Value} {l : List Nt} (h : NL w v l) : ∃ oa cap, v = .slice oa l.length cap ∧ l.length ≤ cap ∧ cap ≤ maxLen ∧ (oa = none → cap = 0) ∧ (0 < l.length → ∃ g, oa = some ⟨g, 0, none⟩) := by
  obtain ⟨_, ⟨e, h0⟩ | ⟨g, cap, cur, e, hb, hg, hn, hc, hs, ht⟩⟩ := h
  · exact ⟨none, 0, by rw [e, h0], by omega, Nat.zero_le _, fun _ => rfl, fun h => by omega⟩
  · exact ⟨some ⟨g, 0, none⟩, cap, e, hn, hc, (fun h => by cases h), fun _ => ⟨g, rfl⟩⟩
theorem NL.at_ {w : World} {g n cap : Nat} {l : List Nt} (h : NL w (.slice (some ⟨g, 0, none⟩) n cap) l) (i : Nat) (x : Nt) (hx : l[i]? = some x) :
    w.cell? ⟨g, i * 4, none⟩ = some (.int .i64 x.ep) ∧ w.cell? ⟨g, i * 4 + 1, none⟩ = some (.int .i64 x.seq) ∧ w.cell? ⟨g, i * 4 + 2, none⟩ = some (.int .i64 x.n) ∧ w.cell? ⟨g, i * 4 + 3, none⟩ = some (.int .i64 x.off) := by
  have hc := fun j u hu => World.ownsRow.cells h (g := g) rfl j u hu
  obtain ⟨h0, h1, h2, h3⟩ := flatN_at l i x hx
  have k0 := hc _ _ h0
  have k1 := hc _ _ h1
  have k2 := hc _ _ h2
  have k3 := hc _ _ h3
  rw [add_lit0] at k0 k1 k2 k3
  exact ⟨k0, k1, k2, k3⟩
theorem NL.lt {w : World} {v : Value} {l : List Nt} (h : NL w v l) : ∀ k, v.ownBlock = some k → k < w.heap.size := fun k hk => (World.ownsRow.lt h k hk).2
theorem NL.kept {w w1 : World} {v : Value} {l : List Nt} (h : NL w v l) (hb : ∀ k, v.ownBlock = some k → w1.heap[k]? = w.heap[k]?) : NL w1 v l := by
  obtain ⟨h1, h2⟩ := h
  rcases h2 with h2 | ⟨g, cap, cur, rfl, hB, hg, r⟩
  · exact ⟨h1, .inl h2⟩
  · exact ⟨h1, .inr ⟨g, cap, cur, rfl, hB, (hb g rfl).trans hg, r⟩⟩
theorem NL.under {w w1 : World} {v : Value} {l : List Nt} (h : NL w v l) (hb : Below w.heap.size w w1) : NL w1 v l := h.kept (fun k hk => hb.block k (h.lt k hk))
theorem NL.block {w : World} {v : Value} {l : List Nt} (h : NL w v l) : ∀ k, v.ownBlock = some k → ∃ cur, w.heap[k]? = some (.cells cur 64 (0, 0)) := by
  intro k hk
  obtain ⟨h1, ⟨rfl, _⟩ | ⟨g, cap, cur, rfl, hB, hg, r⟩⟩ := h
  · cases hk
  · cases hk; exact ⟨cur, hg⟩
theorem NL.take {w : World} {oa : Option Addr} {n cap : Nat} {l : List Nt} (h : NL w (.slice oa n cap) l) (k : Nat) (hk : k ≤ l.length) : NL w (.slice oa k cap) (l.take k) := by
  have hl : (l.take k).length = k := by rw [List.length_take]; omega
  obtain ⟨h1, h2⟩ := h
  refine ⟨by rw [flatN_length], ?_⟩
  rcases h2 with ⟨e, h0⟩ | ⟨g, c, cur, e, hB, hg, hn, hc, hs, ht⟩
  · cases e
    have : k = 0 := by omega
    subst this
    exact .inl ⟨rfl, hl⟩
  · cases e
    refine .inr ⟨g, cap, cur, by rw [hl], hB, hg, by omega, hc, hs, ?_⟩
    rw [hl, flatN_take, ← ht, List.take_take]
    congr 1
    omega

/-- A producer's notes: the value of their slice, and they. -/
structure NE where
  sv : Value
  l : List Nt
abbrev FM := List (Int × NE)
def Rh (v : Value) : Option (DataW Value × List MemPlace) :=
  match v with
  | .slice _ _ _ => some (.held v, [])
  | _ => none
theorem Rh_mk (oa : Option Addr) (l c : Nat) : Rh (.slice oa l c) = some (.held (.slice oa l c), []) := rfl
theorem Rh_inv {v : Value} {y : DataW Value × List MemPlace} (h : Rh v = some y) : (∃ c : Option Addr × Nat × Nat, v = .slice c.1 c.2.1 c.2.2) ∧ y = (.held v, []) := by
  unfold Rh at h
  split at h
  · rename_i oa l c
    exact ⟨⟨(oa, l, c), rfl⟩, by simpa using h.symm⟩
  · cases h
def dmap (fs : FM) : DataW Value := .map (fs.map fun p => (Lit.int .i64 p.1, .held p.2.sv))
def flook (fs : FM) (n : Int) : Option NE := (fs.find? (fun p => p.1 == n)).map (·.2)
def fval (fs : FM) (n : Int) : Value := match flook fs n with | some f => f.sv | none => .slice none 0 0
def fins (x : Int × NE) : FM → FM
  | [] => [x]
  | y :: r => if x.1 < y.1 then x :: y :: r else y :: fins x r
def fdel (fs : FM) (n : Int) : FM := fs.filter fun p => !(p.1 == n)
def fput (fs : FM) (n : Int) (f : NE) : FM := fins (n, f) (fdel fs n)
def abs (fs : FM) : Tb := fs.map fun p => (p.1, p.2.l)

theorem dmap_size (fs : FM) : Maps.size (dmap fs) = fs.length := by simp [dmap, Maps.size]
theorem sk (a b : Int) : (Lit.int .i64 a).sameKey (.int .i64 b) = (a == b) := by
  show (decide _ : Bool) = _
  rw [Bool.eq_iff_iff]; simp [Lit.sameKey]
theorem find_dmap (n : Int) : ∀ fs : FM,
    (fs.map fun p => (Lit.int .i64 p.1, (DataW.held p.2.sv : DataW Value))).find? (fun p => p.1.sameKey (.int .i64 n)) = (fs.find? (fun p => p.1 == n)).map fun p => (Lit.int .i64 p.1, .held p.2.sv)
  | [] => rfl
  | p :: r => by
    simp only [List.map_cons, List.find?_cons, sk]
    cases p.1 == n
    · exact find_dmap n r
    · rfl
theorem dmap_atKey (fs : FM) (n : Int) : (dmap fs).atKey (.int .i64 n) (.held (.slice none 0 0)) = .held (fval fs n) := by
  unfold DataW.atKey dmap
  simp only [find_dmap]
  unfold fval flook
  cases fs.find? (fun p => p.1 == n) <;> rfl
theorem dmap_has (n : Int) (fs : FM) : Maps.has (dmap fs) (.int .i64 n) = (flook fs n).isSome := by
  unfold flook dmap Maps.has
  simp only [Option.isSome_map]
  induction fs with
  | nil => rfl
  | cons p r ih =>
    simp only [List.map_cons, List.any_cons, sk, List.find?_cons]
    cases p.1 == n
    · simpa only [Bool.false_or] using ih
    · rfl
theorem insert_dmap (x : Int × NE) : ∀ fs : FM,
    DataW.insert (Lit.int .i64 x.1, (DataW.held x.2.sv : DataW Value)) (fs.map fun p => (Lit.int .i64 p.1, .held p.2.sv)) = (fins x fs).map fun p => (Lit.int .i64 p.1, .held p.2.sv)
  | [] => rfl
  | p :: r => by
    have ih := insert_dmap x r
    by_cases hb : x.1 < p.1
    · simp [List.map_cons, DataW.insert, fins, Lit.before, hb]
    · simp [List.map_cons, DataW.insert, fins, Lit.before, hb, ih]
theorem filter_dmap (n : Int) : ∀ fs : FM,
    (fs.map fun p => (Lit.int .i64 p.1, (DataW.held p.2.sv : DataW Value))).filter (fun p => !p.1.sameKey (.int .i64 n)) = (fdel fs n).map fun p => (Lit.int .i64 p.1, .held p.2.sv)
  | [] => rfl
  | p :: r => by
    have ih := filter_dmap n r
    unfold fdel at ih ⊢
    simp only [List.map_cons, List.filter_cons, sk, ih]
    split <;> simp
theorem dmap_put (fs : FM) (n : Int) (f : NE) : (dmap fs).put (.int .i64 n) (.held f.sv) = dmap (fput fs n f) := by
  show DataW.map (DataW.insert (.int .i64 n, .held f.sv) ((fs.map fun p => (Lit.int .i64 p.1, (DataW.held p.2.sv : DataW Value))).filter (fun p => !p.1.sameKey (.int .i64 n)))) = _
  rw [filter_dmap, insert_dmap (n, f)]
  rfl
theorem mem_fins (x p : Int × NE) : ∀ fs : FM, p ∈ fins x fs ↔ p = x ∨ p ∈ fs
  | [] => by simp [fins]
  | y :: r => by
    unfold fins
    split
    · simp
    · simp [mem_fins x p r]
      constructor
      · rintro (h | h | h) <;> simp [h]
      · rintro (h | h | h) <;> simp [h]
theorem mem_fput (fs : FM) (n : Int) (f : NE) (p : Int × NE) : p ∈ fput fs n f ↔ p = (n, f) ∨ (p ∈ fs ∧ p.1 ≠ n) := by
  unfold fput fdel
  rw [mem_fins]
  simp
theorem pair_fins (x : Int × NE) (T : (Int × NE) → (Int × NE) → Prop) (hs : ∀ p q, T p q → T q p) : ∀ fs : FM, fs.Pairwise T → (∀ p ∈ fs, T x p) → (fins x fs).Pairwise T
  | [], _, _ => by simp [fins]
  | y :: r, h, hx => by
    unfold fins
    split
    · exact List.Pairwise.cons hx h
    · have h' := List.pairwise_cons.1 h
      refine List.Pairwise.cons (fun p hp => ?_) (pair_fins x T hs r h'.2 (fun p hp => hx p (List.mem_cons_of_mem _ hp)))
      rcases (mem_fins x p r).1 hp with rfl | hp
      · exact hs _ _ (hx y (by simp))
      · exact h'.1 p hp
theorem abs_fins (x : Int × NE) : ∀ fs : FM, abs (fins x fs) = tins (x.1, x.2.l) (abs fs)
  | [] => rfl
  | y :: r => by
    have ih := abs_fins x r
    unfold abs at ih ⊢
    unfold fins tins
    simp only [List.map_cons]
    split
    · rfl
    · simp only [List.map_cons, ih]
theorem abs_fput (fs : FM) (n : Int) (f : NE) : abs (fput fs n f) = tput (abs fs) n f.l := by
  unfold fput tput
  rw [abs_fins]
  unfold abs fdel
  simp only [List.filter_map]
  rfl
theorem abs_get : ∀ (fs : FM) (n : Int), tget (abs fs) n = match flook fs n with | some f => f.l | none => []
  | [], n => rfl
  | p :: r, n => by
    have ih := abs_get r n
    unfold tget flook abs at ih ⊢
    simp only [List.map_cons, List.find?_cons]
    cases p.1 == n
    · exact ih
    · rfl
theorem flook_mem {fs : FM} {n : Int} {f : NE} (h : flook fs n = some f) : (n, f) ∈ fs := by
  unfold flook at h
  obtain ⟨p, hp, rfl⟩ := Option.map_eq_some_iff.1 h
  have h1 := List.mem_of_find?_eq_some hp
  have h2 := List.find?_some hp
  simp at h2
  rw [← h2]
  exact h1

/-- What a call may turn: the blocks of S; all else that was there is as it was. -/
structure Keeps (S : Nat → Prop) (w w' : World) : Prop where
  os : w'.os = w.os
  tape : w'.tape = w.tape
  output : w'.output = w.output
  size : w.heap.size ≤ w'.heap.size
  block : ∀ k, k < w.heap.size → ¬ S k → w'.heap[k]? = w.heap[k]?
theorem Keeps.refl (S : Nat → Prop) (w : World) : Keeps S w w := ⟨rfl, rfl, rfl, Nat.le_refl _, fun _ _ _ => rfl⟩
theorem Keeps.of_below {S : Nat → Prop} {w w1 : World} (h : Below w.heap.size w w1) : Keeps S w w1 := ⟨h.os, h.tape, h.output, h.size, fun k hk _ => h.block k hk⟩
theorem Keeps.trans {S T : Nat → Prop} {w w1 w2 : World} (h : Keeps S w w1) (k : Keeps T w1 w2) (hT : ∀ x, T x → S x ∨ w.heap.size ≤ x) : Keeps S w w2 :=
  ⟨k.os.trans h.os, k.tape.trans h.tape, k.output.trans h.output, Nat.le_trans h.size k.size, fun x hx hS => (k.block x (Nat.lt_of_lt_of_le hx h.size) (fun ht => by rcases hT x ht with h1 | h1; exact hS h1; omega)).trans (h.block x hx hS)⟩
theorem Keeps.below {S : Nat → Prop} {w w1 : World} {B : Nat} (h : Keeps S w w1) (hB : B ≤ w.heap.size) (hS : ∀ k, S k → B ≤ k) : Below B w w1 :=
  ⟨h.os, h.tape, h.output, h.size, fun k hk => h.block k (Nat.lt_of_lt_of_le hk hB) (fun hs => by have := hS k hs; omega)⟩

/-- A table at block q, its map at block b, its notes fs; all its blocks are among S. -/
structure TabM (w : World) (S : Nat → Prop) (q b : Nat) (fs : FM) : Prop where
  below : ∀ k, S k → k < w.heap.size
  self : S q
  cells : w.heap[q]? = some (.cells #[.map (some b)] 55 (0, 0))
  files : w.ownsMap Try.prog 3 Rh b fs.length (dmap fs)
  mapS : S b
  owns : ∀ p ∈ fs, NL w p.2.sv p.2.l ∧ ∀ k, p.2.sv.ownBlock = some k → S k
  apart : fs.Pairwise (fun p q => ∀ k, p.2.sv.ownBlock = some k → q.2.sv.ownBlock ≠ some k)
  ok : TOk (abs fs)
theorem TabM.c0 {w : World} {S q b fs} (h : TabM w S q b fs) : w.cell? ⟨q, 0, none⟩ = some (.map (some b)) := by simp [World.cell?, h.cells]
theorem TabM.f0 {w : World} {S q b fs} (h : TabM w S q b fs) : w.frozen? ⟨q, 0, none⟩ = false := by simp [World.frozen?, h.cells]
theorem TabM.kept {w w1 : World} {S q b fs} (h : TabM w S q b fs) (hb : ∀ k, S k → w1.heap[k]? = w.heap[k]?) (hs : w.heap.size ≤ w1.heap.size) : TabM w1 S q b fs := by
  refine ⟨fun k hk => Nat.lt_of_lt_of_le (h.below k hk) hs, h.self, (hb q h.self).trans h.cells, ?_, h.mapS, fun p hp => ?_, h.apart, h.ok⟩
  · obtain ⟨es, clock, hm, r⟩ := h.files
    exact ⟨es, clock, (hb b h.mapS).trans hm, r⟩
  · obtain ⟨h1, h2⟩ := h.owns p hp
    exact ⟨h1.kept (fun k hk => hb k (h2 k hk)), h2⟩
theorem TabM.under {w w1 : World} {S q b fs} (h : TabM w S q b fs) (hb : Below w.heap.size w w1) : TabM w1 S q b fs := h.kept (fun k hk => hb.block k (h.below k hk)) hb.size
theorem TabM.beside {w w1 : World} {S U : Nat → Prop} {q b fs} (h : TabM w S q b fs) (hk : Keeps U w w1) (hd : ∀ k, S k → ¬ U k) : TabM w1 S q b fs :=
  h.kept (fun k hU => hk.block k (h.below k hU) (hd k hU)) hk.size
theorem TabM.more {w : World} {S S' : Nat → Prop} {q b fs} (h : TabM w S q b fs) (hS : ∀ k, S k → S' k) (hb : ∀ k, S' k → k < w.heap.size) : TabM w S' q b fs :=
  ⟨hb, hS _ h.self, h.cells, h.files, hS _ h.mapS, fun p hp => ⟨(h.owns p hp).1, fun k hk => hS _ ((h.owns p hp).2 k hk)⟩, h.apart, h.ok⟩
def Tab (w : World) (S : Nat → Prop) (q : Nat) (T : Tb) : Prop := ∃ b fs, TabM w S q b fs ∧ abs fs = T
theorem Tab.under {w w1 : World} {S q T} (h : Tab w S q T) (hb : Below w.heap.size w w1) : Tab w1 S q T := by obtain ⟨b, fs, h1, h2⟩ := h; exact ⟨b, fs, h1.under hb, h2⟩
theorem Tab.beside {w w1 : World} {S U : Nat → Prop} {q T} (h : Tab w S q T) (hk : Keeps U w w1) (hd : ∀ k, S k → ¬ U k) : Tab w1 S q T := by obtain ⟨b, fs, h1, h2⟩ := h; exact ⟨b, fs, h1.beside hk hd, h2⟩
theorem Tab.ok {w : World} {S q T} (h : Tab w S q T) : TOk T := by obtain ⟨b, fs, h1, rfl⟩ := h; exact h1.ok
theorem Tab.below {w : World} {S q T} (h : Tab w S q T) : ∀ k, S k → k < w.heap.size := by obtain ⟨b, fs, h1, rfl⟩ := h; exact h1.below
theorem Tab.self {w : World} {S q T} (h : Tab w S q T) : S q := by obtain ⟨b, fs, h1, rfl⟩ := h; exact h1.self
/-- What a call leaves of a table. -/
def TAfter (S : Nat → Prop) (w w' : World) (q : Nat) (T : Tb) : Prop := ∃ S', Tab w' S' q T ∧ (∀ k, S' k → S k ∨ w.heap.size ≤ k) ∧ (∀ k, S k → S' k) ∧ Keeps S w w'

theorem tight {w : World} {b m : Nat} {D : DataW Value} (h : w.ownsMap Try.prog 3 Rh b m D) : w.ownsMap Try.prog 3 Rh b (Maps.size D) D := by
  obtain ⟨es, clock, hm, F, hs, rfl⟩ := h
  exact ⟨es, clock, hm, F, by simp [Maps.size, length_sorted], rfl⟩
theorem TabM.look {w : World} {S q b fs} (h : TabM w S q b fs) (n : Int) (hn : I64 n) :
    (Instr.lookup 53 (.map (some b)) (.int .i64 n) false).run Try.prog w = .ok (fval fs n) w := by
  have hkey := keyOf_int_mk Try.underlying3 (wf_of hn)
  obtain ⟨v, ps, hrun, hv⟩ := World.ownsMap.lookup h.files law3 Try.underlying53 (zero60 w) (zd := .held (.slice none 0 0)) (zp := []) rfl hkey
  rw [dmap_atKey] at hv
  have hv := (Rh_inv hv).2
  simp only [Prod.mk.injEq, DataW.held.injEq] at hv
  rw [hrun, ← hv.1]
theorem TabM.at_ {w : World} {S q b fs} (h : TabM w S q b fs) (n : Int) : NL w (fval fs n) (tget (abs fs) n) ∧ ∀ k, (fval fs n).ownBlock = some k → S k := by
  rw [abs_get]
  unfold fval
  cases hf : flook fs n with
  | none => exact ⟨NL.nil w, fun k hk => by cases hk⟩
  | some f => exact h.owns _ (flook_mem hf)
end Go.Proofs.Ytkdbclnnmpnfgaa

