/- RpcBack: the walk. -/
import Derived.Test.YtocdlaoklagdoaaDoorSg
import Derived.Test.YtocdlaoklagdoaaDoorSh
import Derived.Test.YtocdlaoklagdoaaDoorPb
namespace Go.Proofs.YtocdlaoklagdoaaDoor
open Go.RowKit Go.Maps
set_option linter.unusedSimpArgs false
set_option linter.unusedVariables false
set_option maxRecDepth 100000

/-- What Decode makes of bytes that are a message. -/
theorem decode_back {W : World} (l : List UInt8) (m : Msg) (n : Int) (hl : l.length ≤ maxLen) (hT : Tab W) (hd : decodeL l = (m, n)) :
    Calls Tryd.prog 15 #[.string (strOf l)] W fun e w' => ∃ xb yb xe ye xi yi, e = .returned (.tuple #[.agg #[.int .i64 m.kind, .int .i64 m.n0, .int .i64 m.n1, .int .i64 m.n2, .int .i64 m.n3, .int .i64 m.n4, .int .i64 m.n5, .int .i64 m.n6, .int .i64 m.n7, .int .i64 m.n8, .int .i64 m.n9, .int .i64 m.n10, .int .i64 m.n11, .int .i64 m.n12, .int .i64 m.n13, .int .i64 m.err, .string (strOf m.name), .string (strOf m.text), .slice xb m.bats.length yb, .slice xe m.ents.length ye, .slice xi m.ints.length yi], .int .i64 n]) ∧ Below W.heap.size W w' ∧ Here w' m xb xe xi := by
  refine (decode_any (w := W) l hl hT).mono ?_
  rintro e w' ⟨ba, bc, ea, ec, ia, ic, rfl, hb, h1, h2, h3⟩
  rw [hd] at h1 h2 h3 ⊢
  exact ⟨ba, bc, ea, ec, ia, ic, rfl, hb, h1.at, h2.at, h3.at⟩
theorem load27_wanted {ops : Array Oper} {rest : List Oper} {o : Oper} {a : Act} {w : World} {Q : Exit → Act → World → Prop} (hw : Region.wanted o (yielded ops a.tmps) = true) (x : Operand) (ho : o.op = .load 27 x)
    (g : Nat) (hx : a.eval x = .pointer (some ⟨g, 0, none⟩)) (cs : Array Value) (hg : w.heap[g]? = some (.cells cs 27)) (hz : cs.size = 21)
    (h : wpList Tryd.prog ops Q rest (a.put o.dst (.agg cs)) w) : wpList Tryd.prog ops Q (o :: rest) a w :=
  wpList_step fun K hK => by rw [if_pos hw]; exact wp_load_row 27 x ho g hx 27 cs (0, 0) _ hg Tryd.underlying27 rfl (by rw [hz]; exact size27) (hK _ _ h)
/-- Two boxes of messages. -/
structure Bx2 (w W : World) (A B : Array Value) : Prop where
  below : Below w.heap.size w W
  b0 : W.heap[w.heap.size]? = some (.cells A 27)
  b1 : W.heap[w.heap.size + 1]? = some (.cells B 27)
  sz : w.heap.size + 2 ≤ W.heap.size
theorem Bx2.laid (w : World) (A B : Array Value) : Bx2 w ((w.alloc (.cells A 27)).alloc (.cells B 27)) A B :=
  ⟨((Below.refl _ w).alloc (Nat.le_refl _) _).alloc (by simp) _, (Below.heap_alloc _ _ _ (by simp)).trans (heap_alloc_new w _), heap_alloc2_new w _ _, by simp⟩
theorem Bx2.next {w W W' : World} {A B : Array Value} (h : Bx2 w W A B) (hb : Below W.heap.size W W') : Bx2 w W' A B :=
  ⟨h.below.trans (hb.mono h.below.size), (hb.block _ (by have := h.sz; omega)).trans h.b0, (hb.block _ (by have := h.sz; omega)).trans h.b1, Nat.le_trans h.sz hb.size⟩

set_option maxHeartbeats 3200000 in
theorem back_walk {w : World} (m k : Msg) (ba : Option Addr) (bc : Nat) (ea : Option Addr) (ec : Nat) (ia : Option Addr) (ic : Nat) (pb : Option Addr) (qb : Nat) (pe : Option Addr) (qe : Nat) (pi : Option Addr) (qi : Nat) (hok : m.ok) (hh : Here w m ba ea ia) (kok : k.ok) (kh : Here w k pb pe pi) (hT : Tab w) :
    Calls Tryd.prog 6 #[.agg #[.int .i64 m.kind, .int .i64 m.n0, .int .i64 m.n1, .int .i64 m.n2, .int .i64 m.n3, .int .i64 m.n4, .int .i64 m.n5, .int .i64 m.n6, .int .i64 m.n7, .int .i64 m.n8, .int .i64 m.n9, .int .i64 m.n10, .int .i64 m.n11, .int .i64 m.n12, .int .i64 m.n13, .int .i64 m.err, .string (strOf m.name), .string (strOf m.text), .slice ba m.bats.length bc, .slice ea m.ents.length ec, .slice ia m.ints.length ic], .agg #[.int .i64 k.kind, .int .i64 k.n0, .int .i64 k.n1, .int .i64 k.n2, .int .i64 k.n3, .int .i64 k.n4, .int .i64 k.n5, .int .i64 k.n6, .int .i64 k.n7, .int .i64 k.n8, .int .i64 k.n9, .int .i64 k.n10, .int .i64 k.n11, .int .i64 k.n12, .int .i64 k.n13, .int .i64 k.err, .string (strOf k.name), .string (strOf k.text), .slice pb k.bats.length qb, .slice pe k.ents.length qe, .slice pi k.ints.length qi]] w fun e w' => e = .returned (.bool true) ∧ Below w.heap.size w w' := by
  have X0 := hid (Bx2.laid w #[.int .i64 m.kind, .int .i64 m.n0, .int .i64 m.n1, .int .i64 m.n2, .int .i64 m.n3, .int .i64 m.n4, .int .i64 m.n5, .int .i64 m.n6, .int .i64 m.n7, .int .i64 m.n8, .int .i64 m.n9, .int .i64 m.n10, .int .i64 m.n11, .int .i64 m.n12, .int .i64 m.n13, .int .i64 m.err, .string (strOf m.name), .string (strOf m.text), .slice ba m.bats.length bc, .slice ea m.ents.length ec, .slice ia m.ints.length ic] #[.int .i64 k.kind, .int .i64 k.n0, .int .i64 k.n1, .int .i64 k.n2, .int .i64 k.n3, .int .i64 k.n4, .int .i64 k.n5, .int .i64 k.n6, .int .i64 k.n7, .int .i64 k.n8, .int .i64 k.n9, .int .i64 k.n10, .int .i64 k.n11, .int .i64 k.n12, .int .i64 k.n13, .int .i64 k.err, .string (strOf k.name), .string (strOf k.text), .slice pb k.bats.length qb, .slice pe k.ents.length qe, .slice pi k.ints.length qi])
  have hw2 := hT.2
  have HT := hid hT
  have HS : Hid (∀ W, Below w.heap.size w W → Calls Tryd.prog 8 #[] W fun e w' => e = .returned (.bool true) ∧ Below W.heap.size W w') := fun W h => shown_any (hT.under h hw2)
  have H9 : Hid (∀ W : World, Below w.heap.size w W → Calls Tryd.prog 9 #[.agg #[.int .i64 m.kind, .int .i64 m.n0, .int .i64 m.n1, .int .i64 m.n2, .int .i64 m.n3, .int .i64 m.n4, .int .i64 m.n5, .int .i64 m.n6, .int .i64 m.n7, .int .i64 m.n8, .int .i64 m.n9, .int .i64 m.n10, .int .i64 m.n11, .int .i64 m.n12, .int .i64 m.n13, .int .i64 m.err, .string (strOf m.name), .string (strOf m.text), .slice ba m.bats.length bc, .slice ea m.ents.length ec, .slice ia m.ints.length ic]] W fun e w' => e = .returned (.tuple #[.string (strOf (encodeL m).1), .int .i64 (encodeL m).2]) ∧ Below W.heap.size W w') := fun W h => encode_any (w := W) m ba bc ea ec ia ic hok (hh.under h) (hT.under h hw2)
  have G9 : Hid (∀ W : World, Below w.heap.size w W → Calls Tryd.prog 9 #[.agg #[.int .i64 k.kind, .int .i64 k.n0, .int .i64 k.n1, .int .i64 k.n2, .int .i64 k.n3, .int .i64 k.n4, .int .i64 k.n5, .int .i64 k.n6, .int .i64 k.n7, .int .i64 k.n8, .int .i64 k.n9, .int .i64 k.n10, .int .i64 k.n11, .int .i64 k.n12, .int .i64 k.n13, .int .i64 k.err, .string (strOf k.name), .string (strOf k.text), .slice pb k.bats.length qb, .slice pe k.ents.length qe, .slice pi k.ints.length qi]] W fun e w' => e = .returned (.tuple #[.string (strOf (encodeL k).1), .int .i64 (encodeL k).2]) ∧ Below W.heap.size W w') := fun W h => encode_any (w := W) k pb qb pe qe pi qi kok (kh.under h) (hT.under h hw2)
  have H11 : Hid (∀ W : World, Below w.heap.size w W → Calls Tryd.prog 11 #[.agg #[.int .i64 m.kind, .int .i64 m.n0, .int .i64 m.n1, .int .i64 m.n2, .int .i64 m.n3, .int .i64 m.n4, .int .i64 m.n5, .int .i64 m.n6, .int .i64 m.n7, .int .i64 m.n8, .int .i64 m.n9, .int .i64 m.n10, .int .i64 m.n11, .int .i64 m.n12, .int .i64 m.n13, .int .i64 m.err, .string (strOf m.name), .string (strOf m.text), .slice ba m.bats.length bc, .slice ea m.ents.length ec, .slice ia m.ints.length ic]] W fun e w' => e = .returned (.int .i64 (rightM m).2) ∧ Below W.heap.size W w') := fun W h => rpcRight_any (w := W) m ba bc ea ec ia ic hok (hh.under h) (hT.under h hw2)
  by_cases hR : (rightM m).2 = 0
  · have hz := encodeL_zero hR
    obtain ⟨_, _, hB, _⟩ := rightM_zero hR
    have hback := hid (decodeL_encodeL m hok hR)
    have hinj : Hid ((encodeL k).2 = 0 → ((encodeL m).1 = (encodeL k).1 ↔ m = k)) := fun h => by
      have hk0 : (rightM k).2 = 0 := by
        by_cases e : (rightM k).2 = 0
        · exact e
        · rw [encodeL_not e] at h; exact absurd h e
      exact ⟨fun e => encodeL_inj m k hok kok hR hk0 e, fun e => by rw [e]⟩
    have hL := frameL_len (bodyM m)
    rw [hz] at H9 hback hinj
    rw [hR] at H11
    simp only at H9 hback hinj
    generalize frameL (bodyM m) = s at *
    have hL2 : s.length ≤ 65536 := by omega
    have R1 := hid (fun (W : World) (h : Below w.heap.size w W) => decode_back (W := W) s m 0 (by unfold maxLen; omega) (HT.out.under h hw2) hback.out)
    have S1 : Hid (∀ (W : World) xb yb xe ye xi yi, Below w.heap.size w W → Here W m xb xe xi → Calls Tryd.prog 17 #[.agg #[.int .i64 m.kind, .int .i64 m.n0, .int .i64 m.n1, .int .i64 m.n2, .int .i64 m.n3, .int .i64 m.n4, .int .i64 m.n5, .int .i64 m.n6, .int .i64 m.n7, .int .i64 m.n8, .int .i64 m.n9, .int .i64 m.n10, .int .i64 m.n11, .int .i64 m.n12, .int .i64 m.n13, .int .i64 m.err, .string (strOf m.name), .string (strOf m.text), .slice xb m.bats.length yb, .slice xe m.ents.length ye, .slice xi m.ints.length yi], .agg #[.int .i64 m.kind, .int .i64 m.n0, .int .i64 m.n1, .int .i64 m.n2, .int .i64 m.n3, .int .i64 m.n4, .int .i64 m.n5, .int .i64 m.n6, .int .i64 m.n7, .int .i64 m.n8, .int .i64 m.n9, .int .i64 m.n10, .int .i64 m.n11, .int .i64 m.n12, .int .i64 m.n13, .int .i64 m.err, .string (strOf m.name), .string (strOf m.text), .slice ba m.bats.length bc, .slice ea m.ents.length ec, .slice ia m.ints.length ic]] W fun e w' => e = .returned (.bool true) ∧ Below W.heap.size W w') := fun W xb yb xe ye xi yi h hx => by
      refine (same_any (w := W) m m xb yb xe ye xi yi ba bc ea ec ia ic hx (hh.under h) hok.batsLen hok.entsLen hok.intsLen).mono ?_
      rintro e w' ⟨r, rfl, hr, hb⟩
      have e := hr.2 rfl
      subst e
      exact ⟨rfl, hb⟩
    have S2 : Hid (∀ W : World, Below w.heap.size w W → Calls Tryd.prog 17 #[.agg #[.int .i64 m.kind, .int .i64 m.n0, .int .i64 m.n1, .int .i64 m.n2, .int .i64 m.n3, .int .i64 m.n4, .int .i64 m.n5, .int .i64 m.n6, .int .i64 m.n7, .int .i64 m.n8, .int .i64 m.n9, .int .i64 m.n10, .int .i64 m.n11, .int .i64 m.n12, .int .i64 m.n13, .int .i64 m.err, .string (strOf m.name), .string (strOf m.text), .slice ba m.bats.length bc, .slice ea m.ents.length ec, .slice ia m.ints.length ic], .agg #[.int .i64 k.kind, .int .i64 k.n0, .int .i64 k.n1, .int .i64 k.n2, .int .i64 k.n3, .int .i64 k.n4, .int .i64 k.n5, .int .i64 k.n6, .int .i64 k.n7, .int .i64 k.n8, .int .i64 k.n9, .int .i64 k.n10, .int .i64 k.n11, .int .i64 k.n12, .int .i64 k.n13, .int .i64 k.err, .string (strOf k.name), .string (strOf k.text), .slice pb k.bats.length qb, .slice pe k.ents.length qe, .slice pi k.ints.length qi]] W fun e w' => Told (m = k) W e w') := fun W h => same_any (w := W) m k ba bc ea ec ia ic pb qb pe qe pi qi (hh.under h) (kh.under h) hok.batsLen hok.entsLen hok.intsLen
    have hsz := strOf_size s
    have hgt : ¬ (65536 : Int) < (s.length : Int) := by omega
    clear hz hok hh hT hR kok kh hL hB hback
    obtain ⟨t, ht⟩ : ∃ t, t = (encodeL k).1 := ⟨_, rfl⟩
    obtain ⟨n, hn⟩ : ∃ n, n = (encodeL k).2 := ⟨_, rfl⟩
    rw [← ht, ← hn] at G9 hinj
    clear ht hn
    go_enter Tryd.func6, Tryd.ntmps6
    go_wp2_with fail
    refine (HS.out _ X0.out.below).mono ?_
    rintro e w1 ⟨rfl, hb1⟩
    have X1 := hid (X0.out.next hb1)
    clear hb1 X0
    go_wp2_with (first | (refine wpList_load_row rfl 27 _ rfl w.heap.size rfl 27 _ (0, 0) _ X1.out.b0 Tryd.underlying27 rfl size27 ?_) | fail)
    refine (H9.out _ X1.out.below).mono ?_
    rintro e w2 ⟨rfl, hb2⟩
    have X2 := hid (X1.out.next hb2)
    clear hb2 X1
    go_wp2_with (first | (refine load27_wanted (by rfl) _ rfl w.heap.size rfl _ X2.out.b0 rfl ?_) | fail)
    refine (H11.out _ X2.out.below).mono ?_
    rintro e w3 ⟨rfl, hb3⟩
    have X3 := hid (X2.out.next hb3)
    clear hb3 X2
    go_wp2_with fail
    refine (R1.out _ X3.out.below).mono ?_
    rintro e w4 ⟨xb, yb, xe, ye, xi, yi, rfl, hb4, hx4⟩
    have X4 := hid (X3.out.next hb4)
    have hst : Hid ((w4.alloc (.cells #[.int .i64 0, .int .i64 0, .int .i64 0, .int .i64 0, .int .i64 0, .int .i64 0, .int .i64 0, .int .i64 0, .int .i64 0, .int .i64 0, .int .i64 0, .int .i64 0, .int .i64 0, .int .i64 0, .int .i64 0, .int .i64 0, .string ⟨#[]⟩, .string ⟨#[]⟩, .slice none 0 0, .slice none 0 0, .slice none 0 0] 27)).setRow w4.heap.size #[.int .i64 m.kind, .int .i64 m.n0, .int .i64 m.n1, .int .i64 m.n2, .int .i64 m.n3, .int .i64 m.n4, .int .i64 m.n5, .int .i64 m.n6, .int .i64 m.n7, .int .i64 m.n8, .int .i64 m.n9, .int .i64 m.n10, .int .i64 m.n11, .int .i64 m.n12, .int .i64 m.n13, .int .i64 m.err, .string (strOf m.name), .string (strOf m.text), .slice xb m.bats.length yb, .slice xe m.ents.length ye, .slice xi m.ints.length yi] = w4.alloc (.cells #[.int .i64 m.kind, .int .i64 m.n0, .int .i64 m.n1, .int .i64 m.n2, .int .i64 m.n3, .int .i64 m.n4, .int .i64 m.n5, .int .i64 m.n6, .int .i64 m.n7, .int .i64 m.n8, .int .i64 m.n9, .int .i64 m.n10, .int .i64 m.n11, .int .i64 m.n12, .int .i64 m.n13, .int .i64 m.err, .string (strOf m.name), .string (strOf m.text), .slice xb m.bats.length yb, .slice xe m.ents.length ye, .slice xi m.ints.length yi] 27)) := World.setRow_alloc_new _ _ _ _
    have N1 := hid (heap_alloc_new w4 (.cells #[.int .i64 0, .int .i64 0, .int .i64 0, .int .i64 0, .int .i64 0, .int .i64 0, .int .i64 0, .int .i64 0, .int .i64 0, .int .i64 0, .int .i64 0, .int .i64 0, .int .i64 0, .int .i64 0, .int .i64 0, .int .i64 0, .string ⟨#[]⟩, .string ⟨#[]⟩, .slice none 0 0, .slice none 0 0, .slice none 0 0] 27))
    have N2 := hid (heap_alloc_new w4 (.cells #[.int .i64 m.kind, .int .i64 m.n0, .int .i64 m.n1, .int .i64 m.n2, .int .i64 m.n3, .int .i64 m.n4, .int .i64 m.n5, .int .i64 m.n6, .int .i64 m.n7, .int .i64 m.n8, .int .i64 m.n9, .int .i64 m.n10, .int .i64 m.n11, .int .i64 m.n12, .int .i64 m.n13, .int .i64 m.err, .string (strOf m.name), .string (strOf m.text), .slice xb m.bats.length yb, .slice xe m.ents.length ye, .slice xi m.ints.length yi] 27))
    have X5 := hid (X4.out.next ((Below.refl _ _).alloc (Nat.le_refl _) (.cells #[.int .i64 m.kind, .int .i64 m.n0, .int .i64 m.n1, .int .i64 m.n2, .int .i64 m.n3, .int .i64 m.n4, .int .i64 m.n5, .int .i64 m.n6, .int .i64 m.n7, .int .i64 m.n8, .int .i64 m.n9, .int .i64 m.n10, .int .i64 m.n11, .int .i64 m.n12, .int .i64 m.n13, .int .i64 m.err, .string (strOf m.name), .string (strOf m.text), .slice xb m.bats.length yb, .slice xe m.ents.length ye, .slice xi m.ints.length yi] 27)))
    have HX5 := hid (hx4.under ((Below.refl _ _).alloc (Nat.le_refl _) (.cells #[.int .i64 m.kind, .int .i64 m.n0, .int .i64 m.n1, .int .i64 m.n2, .int .i64 m.n3, .int .i64 m.n4, .int .i64 m.n5, .int .i64 m.n6, .int .i64 m.n7, .int .i64 m.n8, .int .i64 m.n9, .int .i64 m.n10, .int .i64 m.n11, .int .i64 m.n12, .int .i64 m.n13, .int .i64 m.err, .string (strOf m.name), .string (strOf m.text), .slice xb m.bats.length yb, .slice xe m.ents.length ye, .slice xi m.ints.length yi] 27)))
    clear hb4 X3 hx4 X4
    go_wp2_with (first | (refine wpList_store_row rfl 27 _ _ rfl w4.heap.size #[.int .i64 m.kind, .int .i64 m.n0, .int .i64 m.n1, .int .i64 m.n2, .int .i64 m.n3, .int .i64 m.n4, .int .i64 m.n5, .int .i64 m.n6, .int .i64 m.n7, .int .i64 m.n8, .int .i64 m.n9, .int .i64 m.n10, .int .i64 m.n11, .int .i64 m.n12, .int .i64 m.n13, .int .i64 m.err, .string (strOf m.name), .string (strOf m.text), .slice xb m.bats.length yb, .slice xe m.ents.length ye, .slice xi m.ints.length yi] rfl rfl 27 _ N1.out size27 rfl (by simp [Value.oneCell']) ?_; rw [hst.out]) | (refine wpList_load_row rfl 27 _ rfl w4.heap.size rfl 27 _ (0, 0) _ N2.out Tryd.underlying27 rfl size27 ?_) | (refine wpList_load_row rfl 27 _ rfl w.heap.size rfl 27 _ (0, 0) _ X5.out.b0 Tryd.underlying27 rfl size27 ?_) | fail)
    refine (S1.out _ xb yb xe ye xi yi X5.out.below HX5.out).mono ?_
    rintro e w6 ⟨rfl, hb6⟩
    have X6 := hid (X5.out.next hb6)
    clear hb6 X5 HX5 N1 N2 hst
    go_wp2_with (first | (refine wpList_load_row rfl 27 _ rfl (w.heap.size + 1) rfl 27 _ (0, 0) _ X6.out.b1 Tryd.underlying27 rfl size27 ?_) | fail)
    refine (G9.out _ X6.out.below).mono ?_
    rintro e w7 ⟨rfl, hb7⟩
    have X7 := hid (X6.out.next hb7)
    clear hb7 X6
    go_wp2_with (first | (refine wpList_load_row rfl 27 _ rfl w.heap.size rfl 27 _ (0, 0) _ X7.out.b0 Tryd.underlying27 rfl size27 ?_) | (refine wpList_load_row rfl 27 _ rfl (w.heap.size + 1) rfl 27 _ (0, 0) _ X7.out.b1 Tryd.underlying27 rfl size27 ?_) | fail)
    refine (S2.out _ X7.out.below).mono ?_
    rintro e w8 ⟨r, rfl, hr, hb8⟩
    have X8 := hid (X7.out.next hb8)
    clear hb8 X7
    by_cases hn0 : n = 0
    · subst hn0
      by_cases hmk : m = k
      · have hrt : r = true := hr.2 hmk
        subst hrt
        have hst2 : s = t := (hinj.out rfl).2 hmk
        have q : ((strOf s).toList == (strOf t).toList) = true := by rw [hst2]; simp
        clear hr hinj hmk hst2
        go_wp2
        go_ret
        exact ⟨rfl, X8.out.below⟩
      · have hrf : r = false := by cases r with | false => rfl | true => exact absurd (hr.1 rfl) hmk
        subst hrf
        have hst2 : ¬ s = t := fun e => hmk ((hinj.out rfl).1 e)
        have q : ((strOf s).toList == (strOf t).toList) = false := by simp only [beq_eq_false_iff_ne]; exact toList_ne (fun e => hst2 (strOf_inj e))
        clear hr hinj hmk hst2
        go_wp2
        go_ret
        exact ⟨rfl, X8.out.below⟩
    · have q : (n != 0) = true := by simp [hn0]
      clear hinj hr
      go_wp2
      go_ret
      exact ⟨rfl, X8.out.below⟩
  · have HF := hid (encodeL_not hR)
    have hne : ((rightM m).2 != 0) = true := by simp [hR]
    have hne2 : ((rightM m).2 == 0) = false := by simp [hR]
    clear hR
    go_enter Tryd.func6, Tryd.ntmps6
    go_wp2_with fail
    refine (HS.out _ X0.out.below).mono ?_
    rintro e w1 ⟨rfl, hb1⟩
    have X1 := hid (X0.out.next hb1)
    clear hb1 X0
    go_wp2_with (first | (refine wpList_load_row rfl 27 _ rfl w.heap.size rfl 27 _ (0, 0) _ X1.out.b0 Tryd.underlying27 rfl size27 ?_) | fail)
    refine (H9.out _ X1.out.below).mono ?_
    rintro e w2 ⟨rfl, hb2⟩
    rw [HF.out, show Value.string (strOf (([] : List UInt8), (rightM m).2).1) = .string ⟨#[]⟩ from rfl]
    have X2 := hid (X1.out.next hb2)
    clear hb2 X1
    go_wp2_with (first | (refine load27_wanted (by rfl) _ rfl w.heap.size rfl _ X2.out.b0 rfl ?_) | fail)
    refine (H11.out _ X2.out.below).mono ?_
    rintro e w3 ⟨rfl, hb3⟩
    have X3 := hid (X2.out.next hb3)
    clear hb3 X2
    go_wp2
    go_ret
    exact ⟨rfl, X3.out.below⟩
end Go.Proofs.YtocdlaoklagdoaaDoor
