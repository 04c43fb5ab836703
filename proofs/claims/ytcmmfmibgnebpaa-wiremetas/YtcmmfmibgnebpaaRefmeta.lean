/- The document's Meta; WireMetas: the walk. -/
import Derived.Test.YtcmmfmibgnebpaaRefbody
import Derived.Test.YtcmmfmibgnebpaaMeta
import Derived.Test.YtcmmfmibgnebpaaShown
namespace Go.Proofs.Ytcmmfmibgnebpaa
open Go.RowKit Go.Maps
set_option linter.unusedSimpArgs false
set_option linter.unusedVariables false
set_option maxRecDepth 100000

theorem keep_eight {w W W' : World} {a0 a1 a2 a3 a4 a5 a6 a7 : Value} {T : TypeId} (h : Boxed w W (.cells #[a0, a1, a2, a3, a4, a5, a6, a7] T)) (hb : Below W.heap.size W W') : Boxed w W' (.cells #[a0, a1, a2, a3, a4, a5, a6, a7] T) := h.next hb

set_option maxHeartbeats 6400000 in
theorem rmeta_any {w : World} (m : Met) (a : Option Addr) (cap : Nat) (ha : IntsAt w a w.heap.size m.list) (hi : m.ints) :
    Calls Try.prog 28 #[.agg #[.int .i64 m.kind, .int .i64 m.a, .int .i64 m.b, .int .i64 m.c, .int .i64 m.d, .string (strOf m.name), .string (strOf m.text), .slice a m.list.length cap]] w fun e w' => e = .returned (.tuple #[.string (strOf (metaW m).1), .int .i64 (metaW m).2]) ∧ Below w.heap.size w w' := by
  have h6 := hi.h6; have h7 := hi.h7; have h8 := hi.h8
  unfold maxLen at h6 h7 h8
  have hsn := strOf_size m.name
  have hst := strOf_size m.text
  by_cases hn : 32 < m.name.length
  · have hn' : 32 < (m.name.length : Int) := by omega
    have HF : Hid (metaW m = ([], 2)) := by
      have h2 : metB m = 2 := by unfold metB; rw [if_pos (.inl hn)]
      show _ = _; unfold metaW; rw [h2]; rfl
    go_enter Try.func28, Try.ntmps28
    go_wp2
    go_ret2
    exact ⟨by rw [HF.out]; rfl, (Below.refl _ _).alloc (Nat.le_refl _) _⟩
  have hn' : ¬ 32 < (m.name.length : Int) := by omega
  by_cases ht : 1000 < m.text.length
  · have ht' : 1000 < (m.text.length : Int) := by omega
    have HF : Hid (metaW m = ([], 2)) := by
      have h2 : metB m = 2 := by unfold metB; rw [if_pos (.inr ht)]
      show _ = _; unfold metaW; rw [h2]; rfl
    go_enter Try.func28, Try.ntmps28
    go_wp2
    go_ret2
    exact ⟨by rw [HF.out]; rfl, (Below.refl _ _).alloc (Nat.le_refl _) _⟩
  have ht' : ¬ 1000 < (m.text.length : Int) := by omega
  by_cases hl : 64 < m.list.length
  · have hl' : 64 < (m.list.length : Int) := by omega
    have HF : Hid (metaW m = ([], 3)) := by
      have h2 : metB m = 3 := by unfold metB; rw [if_neg (by omega), if_pos hl]
      show _ = _; unfold metaW; rw [h2]; rfl
    go_enter Try.func28, Try.ntmps28
    go_wp2
    go_ret2
    exact ⟨by rw [HF.out]; rfl, (Below.refl _ _).alloc (Nat.le_refl _) _⟩
  have hl' : ¬ 64 < (m.list.length : Int) := by omega
  have HB : Hid (metB m = if 2048 < (metaL m).length + 4 then 2 else 0) := by show _ = _; unfold metB; rw [if_neg (by omega), if_neg hl]
  have HW : Hid (metaW m = if metB m = 0 then (fourL (crcL (metaL m)) ++ metaL m, 0) else ([], metB m)) := rfl
  have HE : Hid (metaL m = intsL [m.kind, m.a, m.b, m.c, m.d] ++ textL m.name ++ textL m.text ++ intL m.list.length ++ intsL m.list) := rfl
  have H13 := hid (fun n W h => rint_any n W h)
  have q0 := hid hi.h0
  have q1 := hid hi.h1
  have q2 := hid hi.h2
  have q3 := hid hi.h3
  have q4 := hid hi.h4
  have q5 : Hid (I64 (m.name.length : Int)) := ⟨by omega, by omega⟩
  have q6 : Hid (I64 (m.text.length : Int)) := ⟨by omega, by omega⟩
  have q7 : Hid (I64 (m.list.length : Int)) := ⟨by omega, by omega⟩
  have z0 := (intL_length m.kind).2
  have z1 := (intL_length m.a).2
  have z2 := (intL_length m.b).2
  have z3 := (intL_length m.c).2
  have z4 := (intL_length m.d).2
  have z5 := (intL_length (m.name.length : Int)).2
  have z6 := (intL_length (m.text.length : Int)).2
  have z7 := (intL_length (m.list.length : Int)).2
  obtain ⟨S1, v1, t1, a1⟩ := sfit (intL m.kind) (intL m.a) _ rfl (by first | omega | (simp only [List.length_append]; omega))
  obtain ⟨S2, v2, t2, a2⟩ := sfit (intL m.kind ++ intL m.a) (intL m.b) _ v1 (by first | omega | (simp only [List.length_append]; omega))
  obtain ⟨S3, v3, t3, a3⟩ := sfit (intL m.kind ++ intL m.a ++ intL m.b) (intL m.c) _ v2 (by first | omega | (simp only [List.length_append]; omega))
  obtain ⟨S4, v4, t4, a4⟩ := sfit (intL m.kind ++ intL m.a ++ intL m.b ++ intL m.c) (intL m.d) _ v3 (by first | omega | (simp only [List.length_append]; omega))
  obtain ⟨S5, v5, t5, a5⟩ := sfit (intL m.kind ++ intL m.a ++ intL m.b ++ intL m.c ++ intL m.d) (intL (m.name.length : Int)) _ v4 (by first | omega | (simp only [List.length_append]; omega))
  obtain ⟨S6, v6, t6, a6⟩ := sfit (intL m.kind ++ intL m.a ++ intL m.b ++ intL m.c ++ intL m.d ++ intL (m.name.length : Int)) (m.name) _ v5 (by first | omega | (simp only [List.length_append]; omega))
  obtain ⟨S7, v7, t7, a7⟩ := sfit (intL m.kind ++ intL m.a ++ intL m.b ++ intL m.c ++ intL m.d ++ intL (m.name.length : Int) ++ m.name) (intL (m.text.length : Int)) _ v6 (by first | omega | (simp only [List.length_append]; omega))
  obtain ⟨S8, v8, t8, a8⟩ := sfit (intL m.kind ++ intL m.a ++ intL m.b ++ intL m.c ++ intL m.d ++ intL (m.name.length : Int) ++ m.name ++ intL (m.text.length : Int)) (m.text) _ v7 (by first | omega | (simp only [List.length_append]; omega))
  obtain ⟨S9, v9, t9, a9⟩ := sfit (intL m.kind ++ intL m.a ++ intL m.b ++ intL m.c ++ intL m.d ++ intL (m.name.length : Int) ++ m.name ++ intL (m.text.length : Int) ++ m.text) (intL (m.list.length : Int)) _ v8 (by first | omega | (simp only [List.length_append]; omega))
  have HS0 : Hid (S9 = strOf (intsL [m.kind, m.a, m.b, m.c, m.d] ++ textL m.name ++ textL m.text ++ intL m.list.length ++ intsL (m.list.take 0))) := by
    show _ = _
    rw [v9]
    simp [intsL, textL]
  have hHL : (intsL [m.kind, m.a, m.b, m.c, m.d] ++ textL m.name ++ textL m.text ++ intL m.list.length).length ≤ 5000 := by
    simp only [textL, intsL, List.length_append, List.length_nil]; omega
  rw [hsn] at t6
  rw [hst] at t8
  clear v1 v2 v3 v4 v5 v6 v7 v8 v9
  have HI := hid hi.h5
  have HA := hid ha
  clear ha hi
  have X0 := hid (Boxed.laid w (.cells #[.int .i64 m.kind, .int .i64 m.a, .int .i64 m.b, .int .i64 m.c, .int .i64 m.d, .string (strOf m.name), .string (strOf m.text), .slice a m.list.length cap] 43))
  go_enter Try.func28, Try.ntmps28
  go_wp2
  obtain ⟨W, hW⟩ : ∃ W, W = w.alloc (.cells #[.int .i64 m.kind, .int .i64 m.a, .int .i64 m.b, .int .i64 m.c, .int .i64 m.d, .string (strOf m.name), .string (strOf m.text), .slice a m.list.length cap] 43) := ⟨_, rfl⟩
  rw [← hW] at X0 ⊢
  clear hW
  obtain ⟨c0, c1, c2, c3, c4, c5, c6, c7⟩ := eight X0.out
  have hX : Hid (Boxed w W.drew (.cells #[.int .i64 m.kind, .int .i64 m.a, .int .i64 m.b, .int .i64 m.c, .int .i64 m.d, .string (strOf m.name), .string (strOf m.text), .slice a m.list.length cap] 43)) := ⟨X0.out.below.drew, X0.out.box⟩
  go_region_held3 (fun w' => w'.cell? ⟨w.heap.size, 0, none⟩ = some (.int .i64 m.kind) ∧ w'.cell? ⟨w.heap.size, 1, none⟩ = some (.int .i64 m.a) ∧ w'.cell? ⟨w.heap.size, 2, none⟩ = some (.int .i64 m.b) ∧ w'.cell? ⟨w.heap.size, 3, none⟩ = some (.int .i64 m.c) ∧ w'.cell? ⟨w.heap.size, 4, none⟩ = some (.int .i64 m.d) ∧ w'.cell? ⟨w.heap.size, 5, none⟩ = some (.string (strOf m.name)) ∧ w'.cell? ⟨w.heap.size, 6, none⟩ = some (.string (strOf m.text)) ∧ w'.cell? ⟨w.heap.size, 7, none⟩ = some (.slice a m.list.length cap))
    (first | exact eight hY.out | (refine ⟨?_, ?_, ?_, ?_, ?_, ?_, ?_, ?_⟩ <;> assumption) | go_keep)
    (first
    | (go_at_call 13; refine (H13.out _ _ (by first | exact q0.out | exact q1.out | exact q2.out | exact q3.out | exact q4.out | exact q5.out | exact q6.out | exact q7.out)).mono ?_; rintro e w1 ⟨rfl, hb1⟩; have hY := hid (keep_eight hX.out hb1); clear hb1 hX; have hX := hY)
    | fail)
  have H0 := hid hY.out
  clear hY hX X0 c0 c1 c2 c3 c4 c5 c6 c7 t1 t2 t3 t4 t5 t6 t7 t8 t9 a1 a2 a3 a4 a5 a6 a7 a8 a9 q0 q1 q2 q3 q4 q5 q6 q7
  go_wp2
  go_loopg [4, 5] m.list.length (fun kx s4 s5 wr => ∃ (k : Nat) (S : ByteArray), k ≤ m.list.length ∧ m.list.length - k ≤ kx ∧ s5 = .int .i64 k ∧ s4 = .string S ∧ Hid (S = strOf (intsL [m.kind, m.a, m.b, m.c, m.d] ++ textL m.name ++ textL m.text ++ intL m.list.length ++ intsL (m.list.take k))) ∧ Hid (Boxed w wr (.cells #[.int .i64 m.kind, .int .i64 m.a, .int .i64 m.b, .int .i64 m.c, .int .i64 m.d, .string (strOf m.name), .string (strOf m.text), .slice a m.list.length cap] 43)))
  case atStart => exact ⟨0, S9, by omega, by omega, rfl, rfl, HS0, H0⟩
  case round =>
    obtain ⟨k, S, hk, hkx, rfl, rfl, HK, HD⟩ := hrel
    clear H0 HS0
    obtain ⟨_, _, _, _, _, _, _, c7⟩ := eight HD.out
    by_cases hlt : k < m.list.length
    · have hlt' : (k : Int) < (m.list.length : Int) := by omega
      obtain ⟨rb, off, rfl, x0⟩ := (HA.out.under HD.out.below).at k hlt
      have p0 := hid (HI.out _ (List.getElem_mem hlt))
      have HR := hid (ints_take m.list k hlt)
      have hM : (intsL (m.list.take k)).length ≤ 640 := by
        have h1 := intsL_length (m.list.take k)
        have h2 : (m.list.take k).length ≤ 64 := by simp; omega
        omega
      generalize m.list[k] = R at *
      have y0 := (intL_length R).2
      obtain ⟨U1, g1, t1, a1⟩ := sfit (intsL [m.kind, m.a, m.b, m.c, m.d] ++ textL m.name ++ textL m.text ++ intL m.list.length ++ intsL (m.list.take k)) (intL R) S HK.out (by rw [List.length_append]; omega)
      have HU : Hid (U1 = strOf (intsL [m.kind, m.a, m.b, m.c, m.d] ++ textL m.name ++ textL m.text ++ intL m.list.length ++ intsL (m.list.take (k + 1)))) := by
        show _ = _
        rw [g1, HR.out]
        simp only [List.append_assoc]
      clear g1 hM y0
      go_wp2_with fail
      refine (H13.out _ _ p0.out).mono ?_
      rintro e w1 ⟨rfl, hb1⟩
      have HN := hid (HD.out.next hb1)
      clear hb1 c7 x0
      go_wp2
      go_roundg (m.list.length - (k + 1))
      case measure => omega
      case rel => exact ⟨k + 1, U1, by omega, Nat.le_refl _, by go_num, rfl, HU, HN⟩
    · have hlt' : ¬ (k : Int) < (m.list.length : Int) := by omega
      have HFS : Hid (S = strOf (metaL m)) := by
        show _ = _
        rw [HK.out, HE.out, List.take_of_length_le (by omega)]
      have hlen : (metaL m).length ≤ 10000 := by
        have h1 := intsL_length m.list
        rw [HE.out, List.length_append]
        omega
      generalize metaL m = L at *
      have hS := HFS.out
      subst hS
      have hsz := strOf_size L
      by_cases hb : 2048 < L.length + 4
      · have hb' : 2048 < (L.length : Int) + 4 := by omega
        have HF : Hid (metaW m = ([], 2)) := by
          have h2 : metB m = 2 := by rw [HB.out, if_pos hb]
          show _ = _; rw [HW.out, h2]; rfl
        go_wp2
        go_ret2
        exact ⟨by rw [HF.out]; rfl, HD.out.below⟩
      have hb' : ¬ 2048 < (L.length : Int) + 4 := by omega
      have HF : Hid (metaW m = (fourL (crcL L) ++ L, 0)) := by
        have h2 : metB m = 0 := by rw [HB.out, if_neg hb]
        show _ = _; rw [HW.out, h2]; rfl
      have hcrc := crcL_lt L
      have H15 := hid (fun W => rcrc_any (strOf L) W (by rw [hsz]; unfold maxLen; omega))
      rw [strOf_data] at H15
      have H20 := hid (fun W => rfour_any (crcL L) W hcrc)
      have e1 := strOf_append (fourL (crcL L)) L
      generalize crcL L = C at *
      have z2 : (strOf (fourL C)).size = 4 := strOf_size _
      go_wp2_with fail
      refine (H15.out _).mono ?_
      rintro e w2 ⟨rfl, rfl⟩
      go_wp2_with fail
      refine (H20.out _).mono ?_
      rintro e w3 ⟨rfl, hb3⟩
      have X3 := hid (HD.out.next hb3)
      clear hb3
      go_wp2
      go_ret2
      exact ⟨by rw [HF.out]; rfl, X3.out.below⟩

set_option maxHeartbeats 1600000 in
theorem metas_walk (m : Met) (a : Option Addr) (cap : Nat) (w : World) (hi : m.ints) (ha : IntsAt w a w.heap.size m.list) :
    Calls Try.prog 7 #[.agg #[.int .i64 m.kind, .int .i64 m.a, .int .i64 m.b, .int .i64 m.c, .int .i64 m.d, .string (strOf m.name), .string (strOf m.text), .slice a m.list.length cap]] w fun e w' => e = .returned (.bool true) ∧ Below w.heap.size w w' := by
  have X0 := hid (Boxed.laid w (.cells #[.int .i64 m.kind, .int .i64 m.a, .int .i64 m.b, .int .i64 m.c, .int .i64 m.d, .string (strOf m.name), .string (strOf m.text), .slice a m.list.length cap] 43))
  have HS := hid (fun W => shown_any W)
  have H27 : Hid (∀ W : World, Below w.heap.size w W → Calls Try.prog 27 #[.agg #[.int .i64 m.kind, .int .i64 m.a, .int .i64 m.b, .int .i64 m.c, .int .i64 m.d, .string (strOf m.name), .string (strOf m.text), .slice a m.list.length cap]] W fun e w' => e = .returned (.tuple #[.string (strOf (metaW m).1), .int .i64 (metaW m).2]) ∧ Below W.heap.size W w') := fun W h => meta_any m a cap ((ha.under h).more h.size) hi
  have H28 : Hid (∀ W : World, Below w.heap.size w W → Calls Try.prog 28 #[.agg #[.int .i64 m.kind, .int .i64 m.a, .int .i64 m.b, .int .i64 m.c, .int .i64 m.d, .string (strOf m.name), .string (strOf m.text), .slice a m.list.length cap]] W fun e w' => e = .returned (.tuple #[.string (strOf (metaW m).1), .int .i64 (metaW m).2]) ∧ Below W.heap.size W w') := fun W h => rmeta_any m a cap ((ha.under h).more h.size) hi
  generalize metaW m = N at *
  obtain ⟨s, e⟩ := N
  simp only at *
  generalize strOf s = S at *
  go_enter Try.func7, Try.ntmps7
  go_wp2_with fail
  refine (HS.out _).mono ?_
  rintro e w1 ⟨rfl, hb1⟩
  have X1 := hid (X0.out.next hb1)
  obtain ⟨c0, c1, c2, c3, c4, c5, c6, c7⟩ := eight X1.out
  clear hb1 X0
  go_wp2_with fail
  refine (H27.out _ X1.out.below).mono ?_
  rintro e w2 ⟨rfl, hb2⟩
  have X2 := hid (X1.out.next hb2)
  clear hb2 c0 c1 c2 c3 c4 c5 c6 c7 X1
  obtain ⟨c0, c1, c2, c3, c4, c5, c6, c7⟩ := eight X2.out
  go_wp2_with fail
  refine (H28.out _ X2.out.below).mono ?_
  rintro e w3 ⟨rfl, hb3⟩
  have X3 := hid (X2.out.next hb3)
  clear hb3
  go_wp2
  go_ret
  exact ⟨rfl, X3.out.below⟩
end Go.Proofs.Ytcmmfmibgnebpaa
