/- A partition is read back. -/
import Derived.Test.YtcffomhcmilcpaaGreatKB2
namespace Go.Proofs.YtcffomhcmilcpaaGreat
open Go.RowKit Go.Maps
set_option maxRecDepth 100000
set_option linter.unusedSimpArgs false
set_option linter.unusedVariables false

/-- What readPart has come to: its two boxes, the lists that are read. -/
structure RP (w U V : World) (Z : Nat → Prop) (q x y : Nat) (I : Im) (l : List UInt8) (zs cs : Array Value) (ls : List (Value × List Int)) : Prop where
  lo : LO w U V Z q x I l
  z : V.heap[U.heap.size]? = some (.cells zs 54)
  b : V.heap[y]? = some (.cells cs 54)
  hy : U.heap.size < y
  hx : x < U.heap.size
  each : ∀ p ∈ ls, IL V p.1 p.2 ∧ In (fun k => U.heap.size < k ∧ k ≠ y) p.1 p.2
theorem RP.ylt {w U V : World} {Z : Nat → Prop} {q x y : Nat} {I : Im} {l : List UInt8} {zs cs : Array Value} {ls : List (Value × List Int)} (h : RP w U V Z q x y I l zs cs ls) : y < V.heap.size := (Array.getElem?_eq_some_iff.1 h.b).1
theorem RP.read {w U V : World} {Z : Nat → Prop} {q x y : Nat} {I : Im} {l : List UInt8} {zs cs : Array Value} {ls : List (Value × List Int)} {ns : List Int} (h : RP w U V Z q x y I (lstB ns ++ l) zs cs ls) (hn : ns.length ≤ 7) (hi : ∀ n ∈ ns, I64 n) :
    Calls Tryz.prog 97 #[.pointer (some ⟨x, 0, none⟩), .int .i64 7] V fun e w' => ∃ v, e = .returned v ∧ RP w U w' Z q x y I l zs cs (ls ++ [(v, ns)]) := by
  have hyl := h.ylt
  refine (readList_any h.lo.1 (most := 7) (by omega) (by omega) hi).mono ?_
  rintro e w' ⟨v, rfl, h1, h2, _, h3⟩
  have hx := h.hx
  have hy := h.hy
  refine ⟨v, rfl, h.lo.trans h3, (h3.2.block _ (by omega) (by omega)).trans h.z, (h3.2.block _ hyl (by omega)).trans h.b, h.hy, h.hx, fun p hp => ?_⟩
  rcases List.mem_append.1 hp with hp | hp
  · obtain ⟨g1, g2⟩ := h.each p hp
    exact ⟨keeps_il (B := U.heap.size) h3.2 g1 (g2.mono (fun b hb => by omega)) h.hx, g2⟩
  · obtain rfl := List.mem_singleton.1 hp
    exact ⟨h1, h2.mono (fun b hb => by omega)⟩
theorem LO.set {w U V : World} {Z : Nat → Prop} {q x y : Nat} {I : Im} {l : List UInt8} (h : LO w U V Z q x I l) (hZ : ∀ k, Z k → k < U.heap.size) (hy : U.heap.size ≤ y) (hx : x < U.heap.size) (hw : w.heap.size ≤ U.heap.size) {N : World} (hN : ∀ k, k ≠ y → N.heap[k]? = V.heap[k]?) (hs : V.heap.size ≤ N.heap.size) (hB : Below w.heap.size w N) (ho : N.os = V.os ∧ N.tape = V.tape ∧ N.output = V.output) : LO w U N Z q x I l := by
  obtain ⟨⟨⟨h1, h2⟩, h3, h4, h5⟩, h6⟩ := h
  exact ⟨⟨⟨h1.kept (fun k hk => hN k (by have := hZ k hk; omega)) hs, h2⟩, h3.kept (hN x (by omega)), h4, hB⟩, ⟨ho.1.trans h6.os, ho.2.1.trans h6.tape, ho.2.2.trans h6.output, Nat.le_trans h6.size hs, fun k hk hS => (hN k (by omega)).trans (h6.block k hk hS)⟩⟩
theorem RP.set {w U V : World} {Z : Nat → Prop} {q x y : Nat} {I : Im} {l : List UInt8} {zs cs : Array Value} {ls : List (Value × List Int)} (h : RP w U V Z q x y I l zs cs ls) (hZ : ∀ k, Z k → k < U.heap.size) (hw : w.heap.size ≤ U.heap.size) (j : Nat) (u : Value) : RP w U (V.setCell ⟨y, j, none⟩ u) Z q x y I l zs (cs.setIfInBounds j u) ls := by
  have hN : ∀ k, k ≠ y → (V.setCell ⟨y, j, none⟩ u).heap[k]? = V.heap[k]? := fun k hk => Below.heap_setCell _ _ _ _ hk
  refine ⟨h.lo.set hZ (Nat.le_of_lt h.hy) h.hx hw hN (by simp) (h.lo.1.below.setCell (by show w.heap.size ≤ y; have := h.hy; omega) _) ⟨rfl, rfl, rfl⟩, (hN _ (by have := h.hy; omega)).trans h.z, set_box h.b, h.hy, h.hx, fun p hp => ?_⟩
  obtain ⟨g1, g2⟩ := h.each p hp
  exact ⟨g1.off (q := y) (g2.mono (fun b hb => hb.2)) (fun b hb => hN b hb) (by simp), g2⟩
set_option maxHeartbeats 12800000 in
theorem readPart_any {w U : World} {Z : Nat → Prop} {q x : Nat} {I : Im} {p : Pt} {l : List UInt8} (h : LS w U Z q x I (ptOne p ++ l)) (hp : RightP p) :
    Calls Tryz.prog 95 #[.pointer (some ⟨x, 0, none⟩), .int .i64 p.id] U fun e w' => ∃ v, e = .returned v ∧ PartM w' v p ∧ InP (fun b => U.heap.size ≤ b) v p ∧ LO w U w' Z q x I l := by
  have HZ := hid h.1.1.lt
  have HWU := hid h.below.size
  have hxl := h.lt
  obtain ⟨pid, pld, pep, pvr, isr, reps, add, rem, mn⟩ := p
  have m1 := ids_len hp.isr
  have m2 := ids_len hp.reps
  have m3 := ids_len hp.add
  have m4 := ids_len hp.rem
  have i64 : ∀ l : List Int, (l.Nodup ∧ ∀ x ∈ l, 1 ≤ x ∧ x ≤ 7) → ∀ n ∈ l, I64 n := fun l hl n hn => by have := hl.2 n hn; unfold I64; omega
  have J1 := hid (i64 _ hp.isr)
  have J2 := hid (i64 _ hp.reps)
  have J3 := hid (i64 _ hp.add)
  have J4 := hid (i64 _ hp.rem)
  have k2 : I64 pld := by
    rcases hp.lead with e | e
    · simp only at e; rw [e]; unfold I64; omega
    · exact i64 _ hp.isr _ e
  have k1 : I64 pid := by have := hp.id; simp only at this; unfold I64; omega
  have k3 : I64 pep := by have := hp.epoch; simp only at this; unfold I64; omega
  have k4 : I64 pvr := by have := hp.ver; simp only at this; unfold I64; omega
  have k5 : I64 mn := by have := hp.min; simp only at this; unfold I64; omega
  simp only at m1 m2 m3 m4 J1 J2 J3 J4 ⊢
  have HB : Hid (LS w U Z q x I (W.intL pld ++ (W.intL pep ++ (W.intL pvr ++ (W.intL mn ++ (lstB isr ++ (lstB reps ++ (lstB add ++ (lstB rem ++ l))))))))) := by
    have e : ptOne ⟨pid, pld, pep, pvr, isr, reps, add, rem, mn⟩ ++ l = W.intL pld ++ (W.intL pep ++ (W.intL pvr ++ (W.intL mn ++ (lstB isr ++ (lstB reps ++ (lstB add ++ (lstB rem ++ l))))))) := by
      unfold ptOne
      simp [W.intsL, List.append_assoc]
    show LS _ _ _ _ _ _ _
    rw [← e]
    exact h
  clear h hp i64
  go_enter Tryz.func95, Tryz.ntmps95
  go_upto_region 1 with fail
  have HC0 : Hid (LS w (U.alloc (.cells #[.int .i64 0, .int .i64 0, .int .i64 0, .int .i64 0, .slice none 0 0, .slice none 0 0, .slice none 0 0, .slice none 0 0, .int .i64 0] 54)) Z q x I (W.intL pld ++ (W.intL pep ++ (W.intL pvr ++ (W.intL mn ++ (lstB isr ++ (lstB reps ++ (lstB add ++ (lstB rem ++ l))))))))) := HB.out.under ((Below.refl _ _).alloc (Nat.le_refl _) _)
  have HZB := hid (heap_alloc_new U (.cells #[.int .i64 0, .int .i64 0, .int .i64 0, .int .i64 0, .slice none 0 0, .slice none 0 0, .slice none 0 0, .slice none 0 0, .int .i64 0] 54))
  have HS0 : Hid (Keeps (fun k => k = x) U (U.alloc (.cells #[.int .i64 0, .int .i64 0, .int .i64 0, .int .i64 0, .slice none 0 0, .slice none 0 0, .slice none 0 0, .slice none 0 0, .int .i64 0] 54))) := Keeps.of_below ((Below.refl _ _).alloc (Nat.le_refl _) _)
  have hsz : (U.alloc (.cells #[.int .i64 0, .int .i64 0, .int .i64 0, .int .i64 0, .slice none 0 0, .slice none 0 0, .slice none 0 0, .slice none 0 0, .int .i64 0] 54)).heap.size = U.heap.size + 1 := by simp
  obtain ⟨zs, hzs⟩ : ∃ zs : Array Value, zs = #[.int .i64 0, .int .i64 0, .int .i64 0, .int .i64 0, .slice none 0 0, .slice none 0 0, .slice none 0 0, .slice none 0 0, .int .i64 0] := ⟨_, rfl⟩
  rw [← hzs] at HC0 HZB HS0 hsz ⊢
  have HZS : Hid (zs.size = 9) := by show _ = _; rw [hzs]; rfl
  clear hzs HB
  generalize U.alloc (.cells zs 54) = V0 at *
  have HV0 : Hid (V0.heap[U.heap.size]? = some (.cells zs 54)) := HZB.out
  have HSZ := hid hsz
  clear hsz HZB
  go_wp2_with fail
  refine (HC0.out.int k2).mono ?_
  rintro e V1 ⟨rfl, ho⟩
  have HC1 := hid ho.1
  have HS1 := hid (HS0.out.trans ho.2 (fun j hj => .inl hj))
  have HV1 : Hid (V1.heap[U.heap.size]? = some (.cells zs 54)) := (ho.2.block _ (Array.getElem?_eq_some_iff.1 HV0.out).1 (by omega)).trans HV0.out
  clear ho HC0 HS0 HV0
  go_wp2_with fail
  refine (HC1.out.int k3).mono ?_
  rintro e V2 ⟨rfl, ho⟩
  have HC2 := hid ho.1
  have HS2 := hid (HS1.out.trans ho.2 (fun j hj => .inl hj))
  have HV2 : Hid (V2.heap[U.heap.size]? = some (.cells zs 54)) := (ho.2.block _ (Array.getElem?_eq_some_iff.1 HV1.out).1 (by omega)).trans HV1.out
  clear ho HC1 HS1 HV1
  go_wp2_with fail
  refine (HC2.out.int k4).mono ?_
  rintro e V3 ⟨rfl, ho⟩
  have HC3 := hid ho.1
  have HS3 := hid (HS2.out.trans ho.2 (fun j hj => .inl hj))
  have HV3 : Hid (V3.heap[U.heap.size]? = some (.cells zs 54)) := (ho.2.block _ (Array.getElem?_eq_some_iff.1 HV2.out).1 (by omega)).trans HV2.out
  clear ho HC2 HS2 HV2
  go_wp2_with fail
  refine (HC3.out.int k5).mono ?_
  rintro e V4 ⟨rfl, ho⟩
  have HC4 := hid ho.1
  have HS4 := hid (HS3.out.trans ho.2 (fun j hj => .inl hj))
  have HV4 : Hid (V4.heap[U.heap.size]? = some (.cells zs 54)) := (ho.2.block _ (Array.getElem?_eq_some_iff.1 HV3.out).1 (by omega)).trans HV3.out
  clear ho HC3 HS3 HV3
  have hzl := (Array.getElem?_eq_some_iff.1 HV4.out).1
  go_upto_region 2 with fail
  have HR0 : Hid (RP w U (V4.alloc (.cells #[.int .i64 pid, .int .i64 pld, .int .i64 pep, .int .i64 pvr, .slice none 0 0, .slice none 0 0, .slice none 0 0, .slice none 0 0, .int .i64 mn] 54)) Z q x V4.heap.size I (lstB isr ++ (lstB reps ++ (lstB add ++ (lstB rem ++ l)))) zs #[.int .i64 pid, .int .i64 pld, .int .i64 pep, .int .i64 pvr, .slice none 0 0, .slice none 0 0, .slice none 0 0, .slice none 0 0, .int .i64 mn] []) := by
    have hb : Below V4.heap.size V4 (V4.alloc (.cells #[.int .i64 pid, .int .i64 pld, .int .i64 pep, .int .i64 pvr, .slice none 0 0, .slice none 0 0, .slice none 0 0, .slice none 0 0, .int .i64 mn] 54)) := (Below.refl _ _).alloc (Nat.le_refl _) _
    exact ⟨⟨HC4.out.under hb, HS4.out.trans (Keeps.of_below hb) (fun j hj => .inl hj)⟩, (hb.block _ hzl).trans HV4.out, heap_alloc_new _ _, hzl, hxl, fun p hp => by cases hp⟩
  generalize V4.alloc (.cells #[.int .i64 pid, .int .i64 pld, .int .i64 pep, .int .i64 pvr, .slice none 0 0, .slice none 0 0, .slice none 0 0, .slice none 0 0, .int .i64 mn] 54) = V5 at *
  generalize V4.heap.size = y at *
  clear HC4 HS4 HV4 hzl
  go_wp2_with fail
  refine (HR0.out.read m1 J1.out).mono ?_
  rintro e V6 ⟨v1, rfl, hr1⟩
  have HR1 := hid hr1
  obtain ⟨a1, c1, e1, _⟩ := (hr1.each (v1, isr) (by simp)).1.shape
  simp only at e1
  clear hr1 HR0
  subst e1
  go_wp2_with fail
  refine (HR1.out.read m2 J2.out).mono ?_
  rintro e V7 ⟨v2, rfl, hr2⟩
  obtain ⟨a2, c2, e2, _⟩ := (hr2.each (v2, reps) (by simp)).1.shape
  simp only at e2
  subst e2
  have d4 := cell_blk hr2.b 4 _ rfl
  have d5 := cell_blk hr2.b 5 _ rfl
  have dz := frz_blk hr2.b
  have HR2 := hid ((hr2.set HZ.out HWU.out 4 (.slice a1 isr.length c1)).set HZ.out HWU.out 5 (.slice a2 reps.length c2))
  clear hr2 HR1
  go_upto_region 3 with fail
  generalize (V7.setCell ⟨y, 4, none⟩ (.slice a1 isr.length c1)).setCell ⟨y, 5, none⟩ (.slice a2 reps.length c2) = V8 at *
  clear d4 d5 dz
  go_wp2_with fail
  refine (HR2.out.read m3 J3.out).mono ?_
  rintro e V9 ⟨v3, rfl, hr3⟩
  have HR3 := hid hr3
  obtain ⟨a3, c3, e3, _⟩ := (hr3.each (v3, add) (by simp)).1.shape
  simp only at e3
  clear hr3 HR2
  subst e3
  go_wp2_with fail
  refine (HR3.out.read m4 J4.out).mono ?_
  rintro e V10 ⟨v4, rfl, hr4⟩
  obtain ⟨a4, c4, e4, _⟩ := (hr4.each (v4, rem) (by simp)).1.shape
  simp only at e4
  subst e4
  have d6 := cell_blk hr4.b 6 _ rfl
  have d7 := cell_blk hr4.b 7 _ rfl
  have dz := frz_blk hr4.b
  have HR4 := hid ((hr4.set HZ.out HWU.out 6 (.slice a3 add.length c3)).set HZ.out HWU.out 7 (.slice a4 rem.length c4))
  clear hr4 HR3
  go_upto_region 4 with fail
  generalize (V10.setCell ⟨y, 6, none⟩ (.slice a3 add.length c3)).setCell ⟨y, 7, none⟩ (.slice a4 rem.length c4) = V11 at *
  clear d6 d7 dz
  have hb : V11.heap[y]? = some (.cells #[.int .i64 pid, .int .i64 pld, .int .i64 pep, .int .i64 pvr, .slice a1 isr.length c1, .slice a2 reps.length c2, .slice a3 add.length c3, .slice a4 rem.length c4, .int .i64 mn] 54) := HR4.out.b
  have g0 := cell_blk hb 0 (.int .i64 pid) rfl
  have g1 := cell_blk hb 1 (.int .i64 pld) rfl
  have g2 := cell_blk hb 2 (.int .i64 pep) rfl
  have g3 := cell_blk hb 3 (.int .i64 pvr) rfl
  have g4 := cell_blk hb 4 (.slice a1 isr.length c1) rfl
  have g5 := cell_blk hb 5 (.slice a2 reps.length c2) rfl
  have g6 := cell_blk hb 6 (.slice a3 add.length c3) rfl
  have g7 := cell_blk hb 7 (.slice a4 rem.length c4) rfl
  have g8 := cell_blk hb 8 (.int .i64 mn) rfl
  have hzb := HR4.out.z
  have zsz := HZS.out
  have zc : ∀ t, t < 9 → ∃ u, V11.cell? ⟨U.heap.size, t, none⟩ = some u := fun t ht => ⟨_, cell_blk hzb t _ (Array.getElem?_eq_getElem (by omega))⟩
  obtain ⟨u0, s0⟩ := zc 0 (by decide)
  obtain ⟨u1, s1⟩ := zc 1 (by decide)
  obtain ⟨u2, s2⟩ := zc 2 (by decide)
  obtain ⟨u3, s3⟩ := zc 3 (by decide)
  obtain ⟨u4, s4⟩ := zc 4 (by decide)
  obtain ⟨u5, s5⟩ := zc 5 (by decide)
  obtain ⟨u6, s6⟩ := zc 6 (by decide)
  obtain ⟨u7, s7⟩ := zc 7 (by decide)
  obtain ⟨u8, s8⟩ := zc 8 (by decide)
  have fz := frz_blk hzb
  have HPU := hid (puts_all [.int .i64 pid, .int .i64 pld, .int .i64 pep, .int .i64 pvr, .slice a1 isr.length c1, .slice a2 reps.length c2, .slice a3 add.length c3, .slice a4 rem.length c4, .int .i64 mn] V11 U.heap.size 0)
  have HB9 := hid (HPU.out.box9 hzb zsz)
  clear hb hzb zc
  go_wp2_with fail
  show bodyPost Tryz.prog Tryz.f95 _ Exit.ret _ (puts V11 U.heap.size 0 [.int .i64 pid, .int .i64 pld, .int .i64 pep, .int .i64 pvr, .slice a1 isr.length c1, .slice a2 reps.length c2, .slice a3 add.length c3, .slice a4 rem.length c4, .int .i64 mn])
  generalize puts V11 U.heap.size 0 [.int .i64 pid, .int .i64 pld, .int .i64 pep, .int .i64 pvr, .slice a1 isr.length c1, .slice a2 reps.length c2, .slice a3 add.length c3, .slice a4 rem.length c4, .int .i64 mn] = N at *
  have r0 := cell_blk HB9.out 0 _ rfl
  have r1 := cell_blk HB9.out 1 _ rfl
  have r2 := cell_blk HB9.out 2 _ rfl
  have r3 := cell_blk HB9.out 3 _ rfl
  have r4 := cell_blk HB9.out 4 _ rfl
  have r5 := cell_blk HB9.out 5 _ rfl
  have r6 := cell_blk HB9.out 6 _ rfl
  have r7 := cell_blk HB9.out 7 _ rfl
  have r8 := cell_blk HB9.out 8 _ rfl
  have hsN : V11.heap.size ≤ N.heap.size := by rw [HPU.out.size]; exact Nat.le_refl _
  have hLO : LO w U N Z q x I l := HR4.out.lo.set HZ.out (Nat.le_refl _) hxl HWU.out (fun k hk => HPU.out.other k hk) hsN (HPU.out.below HR4.out.lo.1.below HWU.out) ⟨HPU.out.os, HPU.out.tape, HPU.out.output⟩
  have hE : ∀ p ∈ ([] ++ [(Value.slice a1 isr.length c1, isr)] ++ [(Value.slice a2 reps.length c2, reps)] ++ [(Value.slice a3 add.length c3, add)] ++ [(Value.slice a4 rem.length c4, rem)] : List (Value × List Int)), IL N p.1 p.2 ∧ In (fun b => U.heap.size ≤ b) p.1 p.2 := fun p hp => by
    obtain ⟨t1, t2⟩ := HR4.out.each p hp
    exact ⟨t1.off (q := U.heap.size) (t2.mono (fun b hb => by omega)) (fun b hb => HPU.out.other b hb) hsN, t2.mono (fun b hb => by omega)⟩
  have E1 := hE (.slice a1 isr.length c1, isr) (by simp)
  have E2 := hE (.slice a2 reps.length c2, reps) (by simp)
  have E3 := hE (.slice a3 add.length c3, add) (by simp)
  have E4 := hE (.slice a4 rem.length c4, rem) (by simp)
  refine bodyPost_ret (v := .agg #[.int .i64 pid, .int .i64 pld, .int .i64 pep, .int .i64 pvr, .slice a1 isr.length c1, .slice a2 reps.length c2, .slice a3 add.length c3, .slice a4 rem.length c4, .int .i64 mn]) (by simp [results, Tryz.results95, go_sem, r0, r1, r2, r3, r4, r5, r6, r7, r8]) rfl ⟨_, rfl, ⟨_, _, _, _, rfl, E1.1, E2.1, E3.1, E4.1, k1, k2, k3, k4, k5⟩, ?_, hLO⟩
  intro i0 l0 m0 e0 a b c d n0 e
  simp only [Value.agg.injEq] at e
  have ee := congrArg Array.toList e
  simp at ee
  obtain ⟨_, _, _, _, rfl, rfl, rfl, rfl, _⟩ := ee
  exact ⟨E1.2, E2.2, E3.2, E4.2⟩
end Go.Proofs.YtcffomhcmilcpaaGreat

