/- Records of metadata, written: metaBody, Meta. -/
import Derived.Test.YtcmmfmibgnebpaaBatch
namespace Go.Proofs.Ytcmmfmibgnebpaa
open Go.RowKit Go.Maps
set_option linter.unusedSimpArgs false
set_option linter.unusedVariables false
set_option maxRecDepth 100000

structure Met.ints (m : Met) : Prop where
  h0 : I64 m.kind
  h1 : I64 m.a
  h2 : I64 m.b
  h3 : I64 m.c
  h4 : I64 m.d
  h5 : ∀ n ∈ m.list, I64 n
  h6 : m.name.length ≤ maxLen
  h7 : m.text.length ≤ maxLen
  h8 : m.list.length ≤ maxLen

theorem IntsAt.more {w : World} {a : Option Addr} {B B' : Nat} {ns : List Int} (h : IntsAt w a B ns) (hB : B ≤ B') : IntsAt w a B' ns := by
  rcases h with h | ⟨b, off, e, hl, hc⟩
  · exact .inl h
  · exact .inr ⟨b, off, e, Nat.lt_of_lt_of_le hl hB, hc⟩

theorem eight {w W : World} {a0 a1 a2 a3 a4 a5 a6 a7 : Value} {T : TypeId} (h : Boxed w W (.cells #[a0, a1, a2, a3, a4, a5, a6, a7] T)) :
    W.cell? ⟨w.heap.size, 0, none⟩ = some a0 ∧ W.cell? ⟨w.heap.size, 1, none⟩ = some a1 ∧ W.cell? ⟨w.heap.size, 2, none⟩ = some a2 ∧ W.cell? ⟨w.heap.size, 3, none⟩ = some a3 ∧ W.cell? ⟨w.heap.size, 4, none⟩ = some a4 ∧ W.cell? ⟨w.heap.size, 5, none⟩ = some a5 ∧ W.cell? ⟨w.heap.size, 6, none⟩ = some a6 ∧ W.cell? ⟨w.heap.size, 7, none⟩ = some a7 :=
  ⟨cell_blk h.box 0 a0 rfl, cell_blk h.box 1 a1 rfl, cell_blk h.box 2 a2 rfl, cell_blk h.box 3 a3 rfl, cell_blk h.box 4 a4 rfl, cell_blk h.box 5 a5 rfl, cell_blk h.box 6 a6 rfl, cell_blk h.box 7 a7 rfl⟩
theorem Boxed.nextB {w W W' : World} {O : Obj} {B : Nat} (h : Boxed w W O) (hB : w.heap.size < B) (hb : Below B W W') : Boxed w W' O := ⟨h.below.trans (hb.mono (Nat.le_of_lt hB)), (hb.block _ hB).trans h.box⟩

set_option maxHeartbeats 1600000 in
theorem metaBody_any {w : World} (m : Met) (a : Option Addr) (cap : Nat) (ha : IntsAt w a w.heap.size m.list) (hi : m.ints) (hn : m.name.length ≤ 1000) (ht : m.text.length ≤ 1000) (hl : m.list.length ≤ 64) :
    Calls Try.prog 44 #[.agg #[.int .i64 m.kind, .int .i64 m.a, .int .i64 m.b, .int .i64 m.c, .int .i64 m.d, .string (strOf m.name), .string (strOf m.text), .slice a m.list.length cap]] w fun e w' => e = .returned (.string (strOf (metaL m))) ∧ Below w.heap.size w w' := by
  have HE : Hid (metaL m = intsL [m.kind, m.a, m.b, m.c, m.d] ++ textL m.name ++ textL m.text ++ intL m.list.length ++ intsL m.list) := rfl
  have hF := intsL_length [m.kind, m.a, m.b, m.c, m.d]
  have hN := textL_length m.name
  have hT := textL_length m.text
  have hL := intL_length (m.list.length : Int)
  simp only [List.length_cons, List.length_nil] at hF
  have HA := hid ha
  have HI := hid hi
  have H47 : Hid (∀ w1 : World, Calls Try.prog 47 #[.slice none 0 0, .slice (some ⟨w1.heap.size, 0, none⟩) 5 5] (w1.alloc (.cells #[.int .i64 m.kind, .int .i64 m.a, .int .i64 m.b, .int .i64 m.c, .int .i64 m.d] 70))
      fun e w' => ∃ v', e = .returned v' ∧ Row w' (w1.heap.size + 1) v' (intsL [m.kind, m.a, m.b, m.c, m.d]) ∧ Below (w1.heap.size + 1) (w1.alloc (.cells #[.int .i64 m.kind, .int .i64 m.a, .int .i64 m.b, .int .i64 m.c, .int .i64 m.d] 70)) w') := by
    intro w1
    have hIA : IntsAt (w1.alloc (.cells #[.int .i64 m.kind, .int .i64 m.a, .int .i64 m.b, .int .i64 m.c, .int .i64 m.d] 70)) (some ⟨w1.heap.size, 0, none⟩) (w1.heap.size + 1) [m.kind, m.a, m.b, m.c, m.d] := by
      refine .inr ⟨w1.heap.size, 0, rfl, by omega, fun i hi => ?_⟩
      have hi5 : i < 5 := hi
      refine cell_new rfl ?_
      match i, hi5 with
      | 0, _ => rfl
      | 1, _ => rfl
      | 2, _ => rfl
      | 3, _ => rfl
      | 4, _ => rfl
    have := appendInts_any (Row.nil (w1.alloc (.cells #[.int .i64 m.kind, .int .i64 m.a, .int .i64 m.b, .int .i64 m.c, .int .i64 m.d] 70)) (w1.heap.size + 1)) (by simp) (some ⟨w1.heap.size, 0, none⟩) 5 [m.kind, m.a, m.b, m.c, m.d] hIA (by
      intro n hn
      simp only [List.mem_cons, List.not_mem_nil, or_false] at hn
      rcases hn with rfl | rfl | rfl | rfl | rfl
      · exact hi.h0
      · exact hi.h1
      · exact hi.h2
      · exact hi.h3
      · exact hi.h4) (by unfold maxLen; simp) (by simp)
    refine this.mono ?_
    rintro e w' ⟨v', rfl, hr, hb, _⟩
    rw [List.nil_append] at hr
    exact ⟨v', rfl, hr, hb⟩
  have X0 := hid (Boxed.laid w (.cells #[.int .i64 m.kind, .int .i64 m.a, .int .i64 m.b, .int .i64 m.c, .int .i64 m.d, .string (strOf m.name), .string (strOf m.text), .slice a m.list.length cap] 43))
  generalize hF5 : intsL [m.kind, m.a, m.b, m.c, m.d] = F at *
  clear hF5 ha
  have H47b : Hid (Calls Try.prog 47 #[.slice none 0 0, .slice (some ⟨w.heap.size + 1, 0, none⟩) 5 5] ((w.alloc (.cells #[.int .i64 m.kind, .int .i64 m.a, .int .i64 m.b, .int .i64 m.c, .int .i64 m.d, .string (strOf m.name), .string (strOf m.text), .slice a m.list.length cap] 43)).alloc (.cells #[.int .i64 m.kind, .int .i64 m.a, .int .i64 m.b, .int .i64 m.c, .int .i64 m.d] 70)) fun e w' => ∃ v', e = .returned v' ∧ Row w' (w.heap.size + 1 + 1) v' F ∧ Below (w.heap.size + 1 + 1) ((w.alloc (.cells #[.int .i64 m.kind, .int .i64 m.a, .int .i64 m.b, .int .i64 m.c, .int .i64 m.d, .string (strOf m.name), .string (strOf m.text), .slice a m.list.length cap] 43)).alloc (.cells #[.int .i64 m.kind, .int .i64 m.a, .int .i64 m.b, .int .i64 m.c, .int .i64 m.d] 70)) w') := by
    have h := H47.out (w.alloc (.cells #[.int .i64 m.kind, .int .i64 m.a, .int .i64 m.b, .int .i64 m.c, .int .i64 m.d, .string (strOf m.name), .string (strOf m.text), .slice a m.list.length cap] 43))
    have e : (w.alloc (.cells #[.int .i64 m.kind, .int .i64 m.a, .int .i64 m.b, .int .i64 m.c, .int .i64 m.d, .string (strOf m.name), .string (strOf m.text), .slice a m.list.length cap] 43)).heap.size = w.heap.size + 1 := by simp
    rw [e] at h
    exact h
  clear H47
  go_enter Try.func44, Try.ntmps44
  go_wp2_with fail
  refine H47b.out.mono ?_
  rintro e w1 ⟨v1, rfl, r1, b1⟩
  have hB : w.heap.size < w.heap.size + 1 + 1 := by omega
  have X1 := hid ((X0.out.next ((Below.refl _ _).alloc (Nat.le_refl _) _)).nextB hB b1)
  have s1 : w.heap.size + 1 + 1 ≤ w1.heap.size := by have := b1.size; simpa using this
  generalize w.heap.size + 1 + 1 = B at *
  have G1 := hid (appendText_any r1 s1 m.name (by omega))
  obtain ⟨c0, c1, c2, c3, c4, c5, c6, c7⟩ := eight X1.out
  clear b1 r1 H47b X0
  go_wp2_with fail
  refine G1.out.mono ?_
  rintro e w2 ⟨v2, rfl, r2, b2, _⟩
  have X2 := hid (X1.out.nextB hB b2)
  have s2 := Nat.le_trans s1 b2.size
  have G2 := hid (appendText_any r2 s2 m.text (by simp only [List.length_append]; omega))
  obtain ⟨d0, d1, d2, d3, d4, d5, d6, d7⟩ := eight X2.out
  clear b2 r2 c0 c1 c2 c3 c4 c5 c6 c7 G1
  go_wp2_with fail
  refine G2.out.mono ?_
  rintro e w3 ⟨v3, rfl, r3, b3, _⟩
  have X3 := hid (X2.out.nextB hB b3)
  have s3 := Nat.le_trans s2 b3.size
  have G3 := hid (appendInt_any r3 s3 (by simp only [List.length_append]; omega) (m.list.length : Int) ⟨by omega, by omega⟩)
  obtain ⟨e0, e1, e2, e3, e4, e5, e6, e7⟩ := eight X3.out
  clear b3 r3 d0 d1 d2 d3 d4 d5 d6 d7 G2
  go_wp2_with fail
  refine G3.out.mono ?_
  rintro e w4 ⟨v4, rfl, r4, b4, _⟩
  have X4 := hid (X3.out.nextB hB b4)
  have s4 := Nat.le_trans s3 b4.size
  have G4 := hid (appendInts_any r4 s4 a cap m.list ((HA.out.under X4.out.below).more (Nat.le_of_lt hB)) HI.out.h5 HI.out.h8 (by simp only [List.length_append]; omega))
  obtain ⟨f0, f1, f2, f3, f4, f5, f6, f7⟩ := eight X4.out
  clear b4 r4 e0 e1 e2 e3 e4 e5 e6 e7 G3
  go_wp2_with fail
  refine G4.out.mono ?_
  rintro e w5 ⟨v5, rfl, r5, b5, _⟩
  have X5 := hid (X4.out.nextB hB b5)
  rw [← HE.out] at r5
  have hcv := r5.conv
  obtain ⟨ra, rc, hv⟩ := r5.shape
  subst hv
  clear b5 r5 G4 f0 f1 f2 f3 f4 f5 f6 f7
  go_wp2
  go_ret
  exact ⟨rfl, X5.out.below⟩

set_option maxHeartbeats 1600000 in
theorem meta_any {w : World} (m : Met) (a : Option Addr) (cap : Nat) (ha : IntsAt w a w.heap.size m.list) (hi : m.ints) :
    Calls Try.prog 27 #[.agg #[.int .i64 m.kind, .int .i64 m.a, .int .i64 m.b, .int .i64 m.c, .int .i64 m.d, .string (strOf m.name), .string (strOf m.text), .slice a m.list.length cap]] w fun e w' => e = .returned (.tuple #[.string (strOf (metaW m).1), .int .i64 (metaW m).2]) ∧ Below w.heap.size w w' := by
  have h6 := hi.h6; have h7 := hi.h7; have h8 := hi.h8
  unfold maxLen at h6 h7 h8
  have hsn := strOf_size m.name
  have hst := strOf_size m.text
  have X0 := hid (Boxed.laid w (.cells #[.int .i64 m.kind, .int .i64 m.a, .int .i64 m.b, .int .i64 m.c, .int .i64 m.d, .string (strOf m.name), .string (strOf m.text), .slice a m.list.length cap] 43))
  have HA := hid ha
  clear ha
  by_cases hn : 32 < m.name.length
  · have hn' : 32 < (m.name.length : Int) := by omega
    have HF : Hid (metaW m = ([], 2)) := by
      have h2 : metB m = 2 := by unfold metB; rw [if_pos (.inl hn)]
      show _ = _; unfold metaW; rw [h2]; rfl
    go_enter Try.func27, Try.ntmps27
    go_wp2
    go_ret2
    exact ⟨by rw [HF.out]; rfl, (Below.refl _ _).alloc (Nat.le_refl _) _⟩
  have hn' : ¬ 32 < (m.name.length : Int) := by omega
  by_cases ht : 1000 < m.text.length
  · have ht' : 1000 < (m.text.length : Int) := by omega
    have HF : Hid (metaW m = ([], 2)) := by
      have h2 : metB m = 2 := by unfold metB; rw [if_pos (.inr ht)]
      show _ = _; unfold metaW; rw [h2]; rfl
    go_enter Try.func27, Try.ntmps27
    go_wp2
    go_ret2
    exact ⟨by rw [HF.out]; rfl, (Below.refl _ _).alloc (Nat.le_refl _) _⟩
  have ht' : ¬ 1000 < (m.text.length : Int) := by omega
  by_cases hl : 64 < m.list.length
  · have hl' : 64 < (m.list.length : Int) := by omega
    have HF : Hid (metaW m = ([], 3)) := by
      have h2 : metB m = 3 := by unfold metB; rw [if_neg (by omega), if_pos hl]
      show _ = _; unfold metaW; rw [h2]; rfl
    go_enter Try.func27, Try.ntmps27
    go_wp2
    go_ret2
    exact ⟨by rw [HF.out]; rfl, (Below.refl _ _).alloc (Nat.le_refl _) _⟩
  have hl' : ¬ 64 < (m.list.length : Int) := by omega
  have H44 : Hid (∀ W, Below w.heap.size w W → Calls Try.prog 44 #[.agg #[.int .i64 m.kind, .int .i64 m.a, .int .i64 m.b, .int .i64 m.c, .int .i64 m.d, .string (strOf m.name), .string (strOf m.text), .slice a m.list.length cap]] W fun e w' => e = .returned (.string (strOf (metaL m))) ∧ Below W.heap.size W w') := fun W h => metaBody_any m a cap ((HA.out.under h).more h.size) hi (by omega) (by omega) (by omega)
  have HB : Hid (metB m = if 2048 < (metaL m).length + 4 then 2 else 0) := by show _ = _; unfold metB; rw [if_neg (by omega), if_neg hl]
  have HW : Hid (metaW m = if metB m = 0 then (fourL (crcL (metaL m)) ++ metaL m, 0) else ([], metB m)) := rfl
  have hlen : (metaL m).length ≤ 10000 := by
    have h1 := intsL_length [m.kind, m.a, m.b, m.c, m.d]
    have h2 := textL_length m.name
    have h3 := textL_length m.text
    have h4 := intL_length (m.list.length : Int)
    have h5 := intsL_length m.list
    simp only [List.length_cons, List.length_nil] at h1
    simp only [metaL, List.length_append]
    omega
  generalize metaL m = L at *
  have hsz := strOf_size L
  by_cases hb : 2048 < L.length + 4
  · have hb' : 2048 < 4 + (L.length : Int) := by omega
    have HF : Hid (metaW m = ([], 2)) := by
      have h2 : metB m = 2 := by rw [HB.out, if_pos hb]
      show _ = _; rw [HW.out, h2]; rfl
    go_enter Try.func27, Try.ntmps27
    go_wp2_with (go_at_call 44; refine (H44.out _ X0.out.below).mono ?_; rintro e w1 ⟨rfl, hb1⟩)
    go_ret2
    exact ⟨by rw [HF.out]; rfl, (X0.out.next hb1).below⟩
  have hb' : ¬ 2048 < 4 + (L.length : Int) := by omega
  have HF : Hid (metaW m = (fourL (crcL L) ++ L, 0)) := by
    have h2 : metB m = 0 := by rw [HB.out, if_neg hb]
    show _ = _; rw [HW.out, h2]; rfl
  have hcrc := crcL_lt L
  have H14 := hid (fun W => crc_any (strOf L) W (by rw [hsz]; unfold maxLen; omega))
  rw [strOf_data] at H14
  have H32 := hid (fun W => four_any (crcL L) W hcrc)
  have e1 := strOf_append (fourL (crcL L)) L
  generalize crcL L = C at *
  have z2 : (strOf (fourL C)).size = 4 := strOf_size _
  go_enter Try.func27, Try.ntmps27
  go_wp2_with (go_at_call 44; refine (H44.out _ X0.out.below).mono ?_; rintro e w1 ⟨rfl, hb1⟩)
  refine (H14.out _).mono ?_
  rintro e w2 ⟨rfl, rfl⟩
  go_wp2_with fail
  refine (H32.out _).mono ?_
  rintro e w3 ⟨rfl, hb3⟩
  have X3 := hid ((X0.out.next hb1).next hb3)
  clear hb1 hb3
  go_wp2
  go_ret2
  exact ⟨by rw [HF.out]; rfl, X3.out.below⟩
end Go.Proofs.Ytcmmfmibgnebpaa
