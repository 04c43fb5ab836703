/- RpcTorn: the walk. -/
import Derived.Test.YtocdlaoklagdoaaDoorSh
import Derived.Test.YtocdlaoklagdoaaDoorPb
import Derived.Lib.ConvBytes
namespace Go.Proofs.YtocdlaoklagdoaaDoor
open Go.RowKit Go.Maps
set_option linter.unusedSimpArgs false
set_option linter.unusedVariables false
set_option maxRecDepth 100000
theorem neg_tmod (c n : Int) : (-(c + 1)).tmod n = -((c + 1).tmod n) := by rw [Int.neg_tmod]
def pickI (c n : Int) : Int := if c < 0 then (-(c + 1)) % n else c % n
theorem pickI_range (c n : Int) (hn : 1 ≤ n) : 0 ≤ pickI c n ∧ pickI c n < n := by
  unfold pickI
  split
  · exact ⟨Int.emod_nonneg _ (by omega), Int.emod_lt_of_pos _ (by omega)⟩
  · exact ⟨Int.emod_nonneg _ (by omega), Int.emod_lt_of_pos _ (by omega)⟩
set_option maxHeartbeats 400000 in
theorem pick_any (c n : Int) (w : World) (h : I64 c) (hn : 1 ≤ n) (hn2 : n ≤ 70000) :
    Calls Tryd.prog 20 #[.int .i64 c, .int .i64 n] w fun e w' => e = .returned (.int .i64 (pickI c n)) ∧ w = w' := by
  obtain ⟨h1, h2⟩ := h
  by_cases hc : c < 0
  · go_enter Tryd.func20, Tryd.ntmps20
    go_wp2
    go_ret
    have e1 : -(c + 1).tmod n = (-(c + 1)).tmod n := (neg_tmod c n).symm
    have e2 : (-(c + 1)).tmod n = (-(c + 1)) % n := Int.tmod_eq_emod_of_nonneg (by omega)
    refine ⟨ret_int ?_, rfl⟩
    unfold pickI
    rw [if_pos hc, e1, e2]
  · go_enter Tryd.func20, Tryd.ntmps20
    go_wp2
    go_ret
    refine ⟨ret_int ?_, rfl⟩
    unfold pickI
    rw [if_neg (by omega)]

/-- A string's bytes in a block of their own. -/
structure Bytes8 (W W1 : World) (l : List UInt8) : Prop where
  cells : ∀ i (h : i < l.length), W1.cell? ⟨W.heap.size, i, none⟩ = some (.int .u8 (l[i].toNat : Int))
  free : ∀ i, i < l.length → W1.frozen? ⟨W.heap.size, i, none⟩ = false
  below : Below W.heap.size W W1
  size : W1.heap.size = W.heap.size + 1
theorem bytes_conv (W : World) (l : List UInt8) : Bytes8 W (Lib.bytesWorld W 5 (strOf l)) l := by
  have hge := grownCap_ge W (strOf l).size 0 5
  rw [strOf_size] at hge
  have hb := Lib.bytesWorld_at_new W 5 (strOf l)
  have hcs : ∀ i (h : i < l.length), (Lib.bytesCells W 5 (strOf l))[i]? = some (.int .u8 (l[i].toNat : Int)) := fun i h => by
    simp only [Lib.bytesCells]
    rw [Array.getElem?_append_left (by simp [strOf]; omega)]
    simp [strOf, h]
  have hsz : (Lib.bytesCells W 5 (strOf l)).size = grownCap W (strOf l).size 0 5 := by
    have e : (strOf l).data.size = l.length := by simp [strOf]
    simp only [Lib.bytesCells, Array.size_append, Array.size_map, e, strOf_size]
    simp
    omega
  refine ⟨fun i h => cell_blk hb i _ (hcs i h), fun i h => ?_, ⟨rfl, rfl, rfl, by rw [Lib.bytesWorld_size]; omega, fun k hk => Lib.bytesWorld_at_old W 5 _ k hk⟩, Lib.bytesWorld_size W 5 _⟩
  simp only [World.frozen?, hb]
  have : ¬ grownCap W (strOf l).size 0 5 ≤ i := by rw [strOf_size]; omega
  rw [hsz]
  simp [this]
theorem Bytes8.back {W W1 : World} {l : List UInt8} (h : Bytes8 W W1 l) (k : Nat) (x : UInt8) (hk : k < l.length) (cap : Nat) :
    (convert 43 9 (.slice (some ⟨W.heap.size, 0, none⟩) l.length cap)).run Tryd.prog (W1.setCell ⟨W.heap.size, k, none⟩ (.int .u8 (x.toNat : Int))) = .ok (.string (strOf (l.set k x))) (W1.setCell ⟨W.heap.size, k, none⟩ (.int .u8 (x.toNat : Int))) := by
  have := run_convert_bytes_arg (W1.setCell ⟨W.heap.size, k, none⟩ (.int .u8 (x.toNat : Int))) 43 5 Tryd.underlying43 Tryd.underlying5 W.heap.size 0 l.length cap ((l.set k x).map fun b => (b.toNat : Int)) (by simp) (fun i hi => by
    rw [Nat.zero_add]
    have hc := h.cells i hi
    by_cases e : k = i
    · subst e
      rw [World.cell?_setCell_same W1 _ _ hc]
      simp [hk]
    · rw [World.cell?_setCell_other W1 _ _ _ (by intro h2; cases h2; exact e rfl), hc]
      simp [List.getElem_set, e, hi]) 9 Tryd.underlying9
  rw [this, strOfNums_u8]

theorem xor_byte (c : UInt8) (y : Nat) (hy : y < 256) : bits .xor .u8 (c.toNat : Int) (y : Int) = (((UInt8.ofNat (c.toNat ^^^ y)).toNat : Nat) : Int) := by
  have hc : c.toNat < 256 := c.toNat_lt
  have hx : c.toNat ^^^ y < 2 ^ 8 := Nat.xor_lt_two_pow hc hy
  rw [u8_xor_nat _ _ hc hy, toNat_u8 _ (by omega)]
theorem xor_none (c : UInt8) : UInt8.ofNat (c.toNat ^^^ 0) = c := by simp
theorem xor_some (c : UInt8) (y : Nat) (hy : y < 256) (h0 : y ≠ 0) : UInt8.ofNat (c.toNat ^^^ y) ≠ c := by
  have hc : c.toNat < 256 := c.toNat_lt
  have hx : c.toNat ^^^ y < 2 ^ 8 := Nat.xor_lt_two_pow hc hy
  intro e
  have e2 := congrArg UInt8.toNat e
  rw [toNat_u8 _ (by omega)] at e2
  have e3 : c.toNat ^^^ y = c.toNat ^^^ 0 := by rw [e2, Nat.xor_zero]
  exact h0 (xor_cancel_left e3)


/-- What Decode makes of bytes, as cells that are not looked into. -/
theorem decode_box {W : World} (l : List UInt8) (hl : l.length ≤ maxLen) (hT : Tab W) (k n : Int) (hk : (decodeL l).1.kind = k) (hn : (decodeL l).2 = n) :
    Calls Tryd.prog 15 #[.string (strOf l)] W fun e w' => ∃ C : Array Value, e = .returned (.tuple #[.agg C, .int .i64 n]) ∧ C.size = 21 ∧ C.all (·.oneCell') = true ∧ C[0]? = some (.int .i64 k) ∧ Below W.heap.size W w' := by
  refine (decode_any (w := W) l hl hT).mono ?_
  rintro e w' ⟨ba, bc, ea, ec, ia, ic, rfl, hb, _, _, _⟩
  subst hk
  subst hn
  exact ⟨_, rfl, rfl, cells21_one _ _ _ _ _ _ _ _ rfl rfl rfl, rfl, hb⟩

set_option maxHeartbeats 3200000 in
theorem torn_walk {w : World} (m : Msg) (ba : Option Addr) (bc : Nat) (ea : Option Addr) (ec : Nat) (ia : Option Addr) (ic : Nat) (at_ : Int) (by_ : Int) (t : List UInt8) (hok : m.ok) (hh : Here w m ba ea ia) (hT : Tab w) (hat : I64 at_) (hby : 0 ≤ by_ ∧ by_ ≤ 255) (ht : t.length + 100000 ≤ maxLen) :
    Calls Tryd.prog 7 #[.agg #[.int .i64 m.kind, .int .i64 m.n0, .int .i64 m.n1, .int .i64 m.n2, .int .i64 m.n3, .int .i64 m.n4, .int .i64 m.n5, .int .i64 m.n6, .int .i64 m.n7, .int .i64 m.n8, .int .i64 m.n9, .int .i64 m.n10, .int .i64 m.n11, .int .i64 m.n12, .int .i64 m.n13, .int .i64 m.err, .string (strOf m.name), .string (strOf m.text), .slice ba m.bats.length bc, .slice ea m.ents.length ec, .slice ia m.ints.length ic], .int .i64 at_, .int .u8 by_, .string (strOf t)] w fun e w' => e = .returned (.bool true) ∧ Below w.heap.size w w' := by
  have X0 := hid (Boxed.laid w (.cells #[.int .i64 m.kind, .int .i64 m.n0, .int .i64 m.n1, .int .i64 m.n2, .int .i64 m.n3, .int .i64 m.n4, .int .i64 m.n5, .int .i64 m.n6, .int .i64 m.n7, .int .i64 m.n8, .int .i64 m.n9, .int .i64 m.n10, .int .i64 m.n11, .int .i64 m.n12, .int .i64 m.n13, .int .i64 m.err, .string (strOf m.name), .string (strOf m.text), .slice ba m.bats.length bc, .slice ea m.ents.length ec, .slice ia m.ints.length ic] 27))
  have hw2 := hT.2
  have HT := hid hT
  have HS : Hid (∀ W, Below w.heap.size w W → Calls Tryd.prog 8 #[] W fun e w' => e = .returned (.bool true) ∧ Below W.heap.size W w') := fun W h => shown_any (hT.under h hw2)
  have H9 : Hid (∀ W : World, Below w.heap.size w W → Calls Tryd.prog 9 #[.agg #[.int .i64 m.kind, .int .i64 m.n0, .int .i64 m.n1, .int .i64 m.n2, .int .i64 m.n3, .int .i64 m.n4, .int .i64 m.n5, .int .i64 m.n6, .int .i64 m.n7, .int .i64 m.n8, .int .i64 m.n9, .int .i64 m.n10, .int .i64 m.n11, .int .i64 m.n12, .int .i64 m.n13, .int .i64 m.err, .string (strOf m.name), .string (strOf m.text), .slice ba m.bats.length bc, .slice ea m.ents.length ec, .slice ia m.ints.length ic]] W fun e w' => e = .returned (.tuple #[.string (strOf (encodeL m).1), .int .i64 (encodeL m).2]) ∧ Below W.heap.size W w') := fun W h => encode_any (w := W) m ba bc ea ec ia ic hok (hh.under h) (hT.under h hw2)
  by_cases hR : (rightM m).2 = 0
  · have hz := encodeL_zero hR
    obtain ⟨_, _, hB, _⟩ := rightM_zero hR
    have hback := hid (decodeL_encodeL m hok hR)
    have hcut := hid (decode_cut (bodyM m) hB)
    have hmore := hid (decode_more (bodyM m) t hB)
    have hset := hid (decode_set (bodyM m) hB)
    have hL := frameL_len (bodyM m)
    rw [hz] at H9 hback
    simp only at H9 hback
    clear hz hok hh hT hR
    generalize frameL (bodyM m) = s at *
    have hL1 : 8 ≤ s.length := by omega
    have hL2 : s.length ≤ 65536 := by omega
    clear hL hB
    have hsz := strOf_size s
    have hr1 := pickI_range at_ (s.length : Int) (by omega)
    have hr2 := pickI_range at_ ((s.length : Int) - 4) (by omega)
    have P1 := hid (fun W => pick_any at_ (s.length : Int) W hat (by omega) (by omega))
    have P2 := hid (fun W => pick_any at_ ((s.length : Int) - 4) W hat (by omega) (by omega))
    generalize pickI at_ (s.length : Int) = K1 at *
    generalize pickI at_ ((s.length : Int) - 4) = K2 at *
    obtain ⟨k1, rfl⟩ := Int.eq_ofNat_of_zero_le hr1.1
    obtain ⟨k2, rfl⟩ := Int.eq_ofNat_of_zero_le hr2.1
    obtain ⟨y, rfl⟩ := Int.eq_ofNat_of_zero_le hby.1
    have hk1 : k1 < s.length := by omega
    have hk2 : 4 + k2 < s.length := by omega
    have hy : y < 256 := by omega
    have hx1 := extract_take s k1
    have hxb := xor_byte s[4 + k2] y hy
    have hcv := fun W => Lib.run_convert_string_bytes (P := Tryd.prog) W 9 43 5 (strOf s) Tryd.underlying9 Tryd.underlying43 Tryd.underlying5
    have hadd : strOf s ++ strOf t = strOf (s ++ t) := strOf_append s t
    have hadd2 := strOf_size t
    clear hr1 hr2 hby
    obtain ⟨x, hx⟩ : ∃ x, x = UInt8.ofNat (s[4 + k2].toNat ^^^ y) := ⟨_, rfl⟩
    have F0 : y = 0 → s.set (4 + k2) x = s := fun h0 => by
      rw [hx, h0, xor_none, List.set_getElem_self]
    have F1 : y ≠ 0 → x ≠ s[4 + k2] := fun h0 => by
      rw [hx]; exact xor_some _ y hy h0
    have HX := hid hx
    rw [← hx] at hxb
    clear hx
    have D3 : Hid (∃ k n : Int, (decodeL (s.set (4 + k2) x)).1.kind = k ∧ (decodeL (s.set (4 + k2) x)).2 = n ∧ (y = 0 → n = 0) ∧ (y ≠ 0 → n = 6 ∧ k = 0)) := by
      refine ⟨_, _, rfl, rfl, fun h0 => by rw [F0 h0, hback.out], fun h0 => ?_⟩
      rw [hset.out (4 + k2) x (by omega) hk2 (F1 h0)]
      exact ⟨rfl, rfl⟩
    have D2 : Hid (∃ n : Int, (decodeL (s ++ t)).2 = n ∧ (t ≠ [] → n = 4)) := ⟨_, rfl, fun h0 => by rw [hmore.out h0]⟩
    obtain ⟨kk, n3, e3k, e3n, g30, g31⟩ := D3.out
    obtain ⟨n2, e2n, g2⟩ := D2.out
    have R1 := hid (fun (W : World) (h : Below w.heap.size w W) => decode_box (W := W) (s.take k1) (by simp; unfold maxLen; omega) (HT.out.under h hw2) 0 5 (by rw [hcut.out k1 hk1]; rfl) (by rw [hcut.out k1 hk1]))
    have R2 := hid (fun (W : World) (h : Below w.heap.size w W) => decode_box (W := W) (s ++ t) (by rw [List.length_append]; omega) (HT.out.under h hw2) _ n2 rfl e2n)
    have R3 := hid (fun (W : World) (h : Below w.heap.size w W) => decode_box (W := W) (s.set (4 + k2) x) (by simp; unfold maxLen; omega) (HT.out.under h hw2) kk n3 e3k e3n)
    have G2 := hid g2
    have G3 := hid (And.intro g30 g31)
    clear D3 D2 e3k e3n e2n g2 g30 g31 hback hcut hmore hset F0 F1
    generalize (decodeL (s ++ t)).1.kind = kk2 at *
    generalize hc : s[4 + k2] = cb at *
    have HC := hid hc
    clear hc
    have BW : Hid (∀ W W1 : World, W1 = Lib.bytesWorld W 5 (strOf s) → Bytes8 W W1 s) := fun W W1 h => by rw [h]; exact bytes_conv W s
    unfold maxLen at ht
    go_enter Tryd.func7, Tryd.ntmps7
    go_wp2_with fail
    refine (HS.out _ X0.out.below).mono ?_
    rintro e w1 ⟨rfl, hb1⟩
    have X1 := hid (X0.out.next hb1)
    have BX := hid X1.out.box
    clear hb1
    go_wp2_with (first | (refine wpList_load_row rfl 27 _ rfl w.heap.size rfl 27 _ (0, 0) _ BX.out Tryd.underlying27 rfl size27 ?_) | fail)
    refine (H9.out _ X1.out.below).mono ?_
    rintro e w2 ⟨rfl, hb2⟩
    have X2 := hid (X1.out.next hb2)
    clear hb2 X1 BX
    go_wp2_with fail
    refine (P1.out _).mono ?_
    rintro e w3 ⟨rfl, rfl⟩
    go_wp2_with fail
    refine (R1.out _ X2.out.below).mono ?_
    rintro e w3 ⟨C1, rfl, z1, o1, _, hb3⟩
    have X3 := hid (X2.out.next hb3)
    have hst1 : Hid ((w3.alloc (.cells #[.int .i64 0, .int .i64 0, .int .i64 0, .int .i64 0, .int .i64 0, .int .i64 0, .int .i64 0, .int .i64 0, .int .i64 0, .int .i64 0, .int .i64 0, .int .i64 0, .int .i64 0, .int .i64 0, .int .i64 0, .int .i64 0, .string ⟨#[]⟩, .string ⟨#[]⟩, .slice none 0 0, .slice none 0 0, .slice none 0 0] 27)).setRow w3.heap.size C1 = w3.alloc (.cells C1 27)) := World.setRow_alloc_new _ _ _ _
    have N1 := hid (heap_alloc_new w3 (.cells #[.int .i64 0, .int .i64 0, .int .i64 0, .int .i64 0, .int .i64 0, .int .i64 0, .int .i64 0, .int .i64 0, .int .i64 0, .int .i64 0, .int .i64 0, .int .i64 0, .int .i64 0, .int .i64 0, .int .i64 0, .int .i64 0, .string ⟨#[]⟩, .string ⟨#[]⟩, .slice none 0 0, .slice none 0 0, .slice none 0 0] 27))
    have X3a := hid (X3.out.next ((Below.refl _ _).alloc (Nat.le_refl _) (.cells C1 27)))
    clear hb3 X2
    go_wp2_with (first | (refine wpList_store_row rfl 27 _ _ rfl w3.heap.size C1 rfl rfl 27 _ N1.out (by rw [z1]; exact size27) (by rw [z1]; rfl) o1 ?_; rw [hst1.out]) | fail)
    refine (R2.out _ X3a.out.below).mono ?_
    rintro e w4 ⟨C2, rfl, z2, o2, _, hb4⟩
    have X4 := hid (X3a.out.next hb4)
    have hst2 : Hid ((w4.alloc (.cells #[.int .i64 0, .int .i64 0, .int .i64 0, .int .i64 0, .int .i64 0, .int .i64 0, .int .i64 0, .int .i64 0, .int .i64 0, .int .i64 0, .int .i64 0, .int .i64 0, .int .i64 0, .int .i64 0, .int .i64 0, .int .i64 0, .string ⟨#[]⟩, .string ⟨#[]⟩, .slice none 0 0, .slice none 0 0, .slice none 0 0] 27)).setRow w4.heap.size C2 = w4.alloc (.cells C2 27)) := World.setRow_alloc_new _ _ _ _
    have N2 := hid (heap_alloc_new w4 (.cells #[.int .i64 0, .int .i64 0, .int .i64 0, .int .i64 0, .int .i64 0, .int .i64 0, .int .i64 0, .int .i64 0, .int .i64 0, .int .i64 0, .int .i64 0, .int .i64 0, .int .i64 0, .int .i64 0, .int .i64 0, .int .i64 0, .string ⟨#[]⟩, .string ⟨#[]⟩, .slice none 0 0, .slice none 0 0, .slice none 0 0] 27))
    have X4a := hid (X4.out.next ((Below.refl _ _).alloc (Nat.le_refl _) (.cells C2 27)))
    clear hb4 X3 X3a hst1 N1
    go_wp2_with (first | (refine wpList_store_row rfl 27 _ _ rfl w4.heap.size C2 rfl rfl 27 _ N2.out (by rw [z2]; exact size27) (by rw [z2]; rfl) o2 ?_; rw [hst2.out]) | fail)
    refine (P2.out _).mono ?_
    rintro e w5 ⟨rfl, hw5⟩
    have hsz5 : w5.heap.size = w4.heap.size + 1 := by rw [← hw5]; simp
    have X5 : Hid (Boxed w w5 (.cells #[.int .i64 m.kind, .int .i64 m.n0, .int .i64 m.n1, .int .i64 m.n2, .int .i64 m.n3, .int .i64 m.n4, .int .i64 m.n5, .int .i64 m.n6, .int .i64 m.n7, .int .i64 m.n8, .int .i64 m.n9, .int .i64 m.n10, .int .i64 m.n11, .int .i64 m.n12, .int .i64 m.n13, .int .i64 m.err, .string (strOf m.name), .string (strOf m.text), .slice ba m.bats.length bc, .slice ea m.ents.length ec, .slice ia m.ints.length ic] 27)) := by rw [← hw5]; exact X4a.out
    subst hw5
    generalize hW5 : w4.alloc (.cells C2 27) = W5 at *
    clear hW5
    obtain ⟨WB, hWB⟩ : ∃ WB, WB = Lib.bytesWorld W5 5 (strOf s) := ⟨_, rfl⟩
    have hcv5 := hcv W5
    have B8 := hid (BW.out W5 WB hWB)
    rw [← hWB, hsz] at hcv5
    clear hWB hcv BW
    generalize grownCap W5 s.length 0 5 = cp at *
    have d1 := B8.out.cells (4 + k2) hk2
    rw [HC.out] at d1
    have d2 := B8.out.free (4 + k2) hk2
    have d3 := B8.out.back (4 + k2) x hk2 cp
    have X6 := hid (X5.out.next (B8.out.below.setCell (p := ⟨W5.heap.size, 4 + k2, none⟩) (Nat.le_refl _) (.int .u8 (x.toNat : Int))))
    have i4 : (0 : Int) ≤ 4 + (k2 : Int) := by omega
    have i5 : 4 + (k2 : Int) < (s.length : Int) := by omega
    have i6 : (4 + (k2 : Int)).toNat = 4 + k2 := by omega
    clear hsz5 X4 X4a X5 N2 hst2
    go_wp2_with fail
    refine (R3.out _ X6.out.below).mono ?_
    rintro e w7 ⟨C3, rfl, z3, o3, ck, hb7⟩
    have X7 := hid (X6.out.next hb7)
    have hst3 : Hid ((w7.alloc (.cells #[.int .i64 0, .int .i64 0, .int .i64 0, .int .i64 0, .int .i64 0, .int .i64 0, .int .i64 0, .int .i64 0, .int .i64 0, .int .i64 0, .int .i64 0, .int .i64 0, .int .i64 0, .int .i64 0, .int .i64 0, .int .i64 0, .string ⟨#[]⟩, .string ⟨#[]⟩, .slice none 0 0, .slice none 0 0, .slice none 0 0] 27)).setRow w7.heap.size C3 = w7.alloc (.cells C3 27)) := World.setRow_alloc_new _ _ _ _
    have N3 := hid (heap_alloc_new w7 (.cells #[.int .i64 0, .int .i64 0, .int .i64 0, .int .i64 0, .int .i64 0, .int .i64 0, .int .i64 0, .int .i64 0, .int .i64 0, .int .i64 0, .int .i64 0, .int .i64 0, .int .i64 0, .int .i64 0, .int .i64 0, .int .i64 0, .string ⟨#[]⟩, .string ⟨#[]⟩, .slice none 0 0, .slice none 0 0, .slice none 0 0] 27))
    have N4 := hid (heap_alloc_new w7 (.cells C3 27))
    have c0 := cell_blk N4.out 0 _ ck
    have BZ := hid (X7.out.below.alloc (Nat.le_of_lt X7.out.lt) (.cells C3 27))
    clear hb7 X6 d1 d2 d3 X7
    by_cases hy0 : y = 0
    · have e3 := G3.out.1 hy0
      subst e3
      have hy0' : ((y : Int) == 0) = true := by simp [hy0]
      by_cases ht0 : t = []
      · have et : strOf t = ⟨#[]⟩ := by rw [ht0]; rfl
        rw [et]
        go_wp2_with (first | (refine wpList_store_row rfl 27 _ _ rfl w7.heap.size C3 rfl rfl 27 _ N3.out (by rw [z3]; exact size27) (by rw [z3]; rfl) o3 ?_; rw [hst3.out]) | fail)
        go_ret
        exact ⟨rfl, BZ.out⟩
      · have e2 := G2.out ht0
        subst e2
        have q : (strOf t).toList.isEmpty = false := by rw [str_empty]; simp [ht0]
        go_wp2_with (first | (refine wpList_store_row rfl 27 _ _ rfl w7.heap.size C3 rfl rfl 27 _ N3.out (by rw [z3]; exact size27) (by rw [z3]; rfl) o3 ?_; rw [hst3.out]) | fail)
        go_ret
        exact ⟨rfl, BZ.out⟩
    · obtain ⟨e3, e4⟩ := G3.out.2 hy0
      subst e3
      subst e4
      have hy0' : ((y : Int) == 0) = false := by simp [hy0]
      by_cases ht0 : t = []
      · have et : strOf t = ⟨#[]⟩ := by rw [ht0]; rfl
        rw [et]
        go_wp2_with (first | (refine wpList_store_row rfl 27 _ _ rfl w7.heap.size C3 rfl rfl 27 _ N3.out (by rw [z3]; exact size27) (by rw [z3]; rfl) o3 ?_; rw [hst3.out]) | fail)
        go_ret
        exact ⟨rfl, BZ.out⟩
      · have e2 := G2.out ht0
        subst e2
        have q : (strOf t).toList.isEmpty = false := by rw [str_empty]; simp [ht0]
        go_wp2_with (first | (refine wpList_store_row rfl 27 _ _ rfl w7.heap.size C3 rfl rfl 27 _ N3.out (by rw [z3]; exact size27) (by rw [z3]; rfl) o3 ?_; rw [hst3.out]) | fail)
        go_ret
        exact ⟨rfl, BZ.out⟩
  · have HF := hid (encodeL_not hR)
    have hne : ((rightM m).2 != 0) = true := by simp [hR]
    clear hR
    go_enter Tryd.func7, Tryd.ntmps7
    go_wp2_with fail
    refine (HS.out _ X0.out.below).mono ?_
    rintro e w1 ⟨rfl, hb1⟩
    have X1 := hid (X0.out.next hb1)
    have BX := hid X1.out.box
    clear hb1
    go_wp2_with (first | (refine wpList_load_row rfl 27 _ rfl w.heap.size rfl 27 _ (0, 0) _ BX.out Tryd.underlying27 rfl size27 ?_) | fail)
    refine (H9.out _ X1.out.below).mono ?_
    rintro e w2 ⟨rfl, hb2⟩
    rw [HF.out, show Value.string (strOf (([] : List UInt8), (rightM m).2).1) = .string ⟨#[]⟩ from rfl]
    have X2 := hid (X1.out.next hb2)
    clear hb2
    go_wp2
    go_ret
    exact ⟨rfl, X2.out.below⟩
end Go.Proofs.YtocdlaoklagdoaaDoor
