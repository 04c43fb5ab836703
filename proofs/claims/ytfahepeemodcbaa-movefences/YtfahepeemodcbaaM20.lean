/- When all brokers are fenced. -/
import Derived.Test.YtfahepeemodcbaaM18
import Derived.Test.YtfahepeemodcbaaM19
import Derived.Deep.RegionLaw
import Derived.Deep.RegionLawGrows
namespace Go.Proofs.Ytfahepeemodcbaa
open Go.RowKit Go.Maps
set_option linter.unusedSimpArgs false
set_option linter.unusedVariables false
set_option maxRecDepth 100000

theorem step_append_own {w : World} {ops : Array Oper} {o : Oper} {a : Act} {K : Act → World → Prop} {Q : Exit → Act → World → Prop} {E : Prop} (hgd : o.guard = none) (s x : Operand) (t : TypeId)
    (ho : o.op = .call { callee := .builtin .append, args := #[s, x], argTypes := #[t, t] })
    (base : Nat) (e : TypeId) (i : TypeInfo) (z : Value) (size bytes : Nat) (ht : Try.prog.underlying t = some (.slice e)) (hi : Try.prog.info? e = some i) (hz : i.zero = some z)
    (hsize : i.size = size) (hby : i.bytes = bytes) (hzs : z.cells.size = size) (hsz : 0 < size)
    (v : Value) (n : Nat) (xs : List Value) (hs : a.eval s = v) (hown : w.ownsRow base e size v n xs)
    (ad : Addr) (m c : Nat) (news : List Value) (hx : a.eval x = .slice (some ad) m c) (hl : news.length = m * size) (hnews : ∀ j u, news[j]? = some u → w.cell? (ad.add j) = some u) (h1 : ∀ u ∈ news, u.oneCell' = true)
    (h63 : n + m ≤ maxLen) (hbytes : (n + m) * bytes ≤ 140737488355328) (hbase : base ≤ w.heap.size)
    (h : ∀ v' w', w'.ownsRow base e size v' (n + m) (xs ++ news) → w.grownBy w' v.ownBlock → (v' = .slice none 0 0 ↔ v = .slice none 0 0 ∧ m = 0) → (v'.ownBlock = v.ownBlock ∨ v'.ownBlock = some w.heap.size) → K (a.put o.dst v') w') :
    if Region.wanted o (yielded ops a.tmps) = true then Oper.wp Try.prog o a w K Q else E := by
  have hw : Region.wanted o (yielded ops a.tmps) = true := by simp [Region.wanted, hgd]
  rw [if_pos hw]
  obtain ⟨v', w', hr, h2, h3, h4, h5⟩ := run_append_own_at (P := Try.prog) w base t o.type e i z size bytes ht hi hz hsize hby hzs hsz v n xs hown ad m c news hl hnews h1 h63 hbytes hbase
  unfold Oper.wp execOp
  simp only [ho, resolve, invoke, builtin, Sem.run_bind, Sem.run_pure, Result.andThen_ok, List.map_toArray, List.map_cons, List.map_nil, hs, hx, hr]
  exact h v' w' h2 h3 h4 h5

theorem IL.low {w : World} {b off n c : Nat} {l : List Int} (h : IL w (.slice (some ⟨b, off, none⟩) n c) l) (k : Nat) (hk : k ≤ l.length) : ∀ j u, (vals (l.take k))[j]? = some u → w.cell? ((⟨b, off, none⟩ : Addr).add j) = some u := by
  intro j u hu
  by_cases hne : l = []
  · subst hne; simp [vals] at hu
  · refine h.cells rfl hne j u ?_
    simp only [vals, List.map_take] at hu ⊢
    rw [List.getElem?_take] at hu
    split at hu
    · exact hu
    · cases hu
theorem IL.high {w : World} {b off n c : Nat} {l : List Int} (h : IL w (.slice (some ⟨b, off, none⟩) n c) l) (k : Nat) : ∀ j u, (vals (l.drop k))[j]? = some u → w.cell? ((⟨b, off + k, none⟩ : Addr).add j) = some u := by
  intro j u hu
  by_cases hne : l = []
  · subst hne; simp [vals] at hu
  · have := h.cells rfl hne (k + j) u (by simp only [vals, List.map_drop, List.getElem?_drop] at hu ⊢; exact hu)
    rw [add_at] at this ⊢
    rw [show off + k + j = off + (k + j) by omega]
    exact this
theorem IL.tail {w : World} {b off c : Nat} {x : Int} {l : List Int} (h : IL w (.slice (some ⟨b, off, none⟩) (x :: l).length c) (x :: l)) : IL w (.slice (some ⟨b, off + 1, none⟩) l.length (c - 1)) l ∧ (c = 1 → IL w (.slice (some ⟨b, off, none⟩) l.length 0) l) := by
  obtain ⟨⟨a, cap, e, h1, h2, h3, h4⟩, h5, h6⟩ := h
  cases e
  simp only [List.length_cons] at h1 h6
  obtain ⟨b', off', e1, e2, e3⟩ := h4 (by simp)
  cases e1
  refine ⟨⟨⟨_, _, rfl, by omega, by omega, (fun h => by cases h), fun hn => ⟨b, off + 1, rfl, e2, fun i hi => ?_⟩⟩, fun y hy => h5 y (by simp [hy]), by omega⟩, fun hc => ?_⟩
  · have := e3 (i + 1) (by simp; omega)
    rw [show off + 1 + i = off + (i + 1) by omega]
    simpa using this
  · have : l = [] := List.eq_nil_of_length_eq_zero (by omega)
    subst this
    exact ⟨⟨_, _, rfl, Nat.le_refl _, Nat.zero_le _, (fun h => by cases h), fun hn => absurd rfl hn⟩, (fun y hy => by cases hy), by simp⟩
theorem FI.few {p : Pt} {U : List Int} (h : FI p U) : U.length ≤ 7 := few_len 7 U h.nod h.ids
set_option maxHeartbeats 25600000 in
theorem fences_walk {w : World} {v m : Value} {p : Pt} {ord : List Int} (h : PartM w v p) (hm : IL w m ord) : Calls Try.prog 8 #[v, m] w fun e w' => e = .returned (.bool true) ∧ Below w.heap.size w w' := by
  obtain ⟨id, ld, ep, vr, isr, reps, add, rem, mn⟩ := p
  obtain ⟨a1, c1, a2, c2, a3, c3, a4, c4, rfl, q1, q2, q3, q4, i0, i1, i2, i3, i4⟩ := h.open
  simp only at q1 q2 q3 q4 i0 i1 i2 i3 i4 ⊢
  have Q1 := hid q1
  have Q2 := hid q2
  have Q3 := hid q3
  have Q4 := hid q4
  clear h q1 q2 q3 q4
  have HX : Hid ((w.alloc (.cells #[.int .i64 id, .int .i64 ld, .int .i64 ep, .int .i64 vr, .slice a1 isr.length c1, .slice a2 reps.length c2, .slice a3 add.length c3, .slice a4 rem.length c4, .int .i64 mn] 24)).heap[w.heap.size]? = some (.cells #[.int .i64 id, .int .i64 ld, .int .i64 ep, .int .i64 vr, .slice a1 isr.length c1, .slice a2 reps.length c2, .slice a3 add.length c3, .slice a4 rem.length c4, .int .i64 mn] 24)) := heap_alloc_new w _
  have HB : Hid (Below w.heap.size w (w.alloc (.cells #[.int .i64 id, .int .i64 ld, .int .i64 ep, .int .i64 vr, .slice a1 isr.length c1, .slice a2 reps.length c2, .slice a3 add.length c3, .slice a4 rem.length c4, .int .i64 mn] 24))) := (Below.refl _ _).alloc (Nat.le_refl _) _
  have hsz : (w.alloc (.cells #[.int .i64 id, .int .i64 ld, .int .i64 ep, .int .i64 vr, .slice a1 isr.length c1, .slice a2 reps.length c2, .slice a3 add.length c3, .slice a4 rem.length c4, .int .i64 mn] 24)).heap.size = w.heap.size + 1 := by simp
  obtain ⟨ma, mc, rfl, _⟩ := hm.shape
  have QM := hid hm
  have hof := hm.few
  have HP : Hid (∀ W, Below w.heap.size w W → PartM W (.agg #[.int .i64 id, .int .i64 ld, .int .i64 ep, .int .i64 vr, .slice a1 isr.length c1, .slice a2 reps.length c2, .slice a3 add.length c3, .slice a4 rem.length c4, .int .i64 mn]) ⟨id, ld, ep, vr, isr, reps, add, rem, mn⟩) := fun W hb => ⟨_, _, _, _, rfl, Q1.out.under hb, Q2.out.under hb, Q3.out.under hb, Q4.out.under hb, i0, i1, i2, i3, i4⟩
  have G12 : Hid (∀ W, Below w.heap.size w W → Calls Try.prog 12 #[.agg #[.int .i64 id, .int .i64 ld, .int .i64 ep, .int .i64 vr, .slice a1 isr.length c1, .slice a2 reps.length c2, .slice a3 add.length c3, .slice a4 rem.length c4, .int .i64 mn]] W fun e w' => e = .returned (.bool (rightB ⟨id, ld, ep, vr, isr, reps, add, rem, mn⟩)) ∧ Below W.heap.size W w') := fun W hb => right_any (HP.out W hb)
  have HRT : Hid (rightB ⟨id, ld, ep, vr, isr, reps, add, rem, mn⟩ = true → RightP ⟨id, ld, ep, vr, isr, reps, add, rem, mn⟩) := fun e => rightB_iff.1 e
  have HIN : Hid (InP (fun b => b ≠ w.heap.size) (.agg #[.int .i64 id, .int .i64 ld, .int .i64 ep, .int .i64 vr, .slice a1 isr.length c1, .slice a2 reps.length c2, .slice a3 add.length c3, .slice a4 rem.length c4, .int .i64 mn]) ⟨id, ld, ep, vr, isr, reps, add, rem, mn⟩) := (HP.out w (Below.refl _ _)).old.mono fun b hb => by omega
  generalize rightB ⟨id, ld, ep, vr, isr, reps, add, rem, mn⟩ = B1 at *
  clear hm i0 i1 i2 i3 i4 Q1 Q2 Q3 Q4
  go_enter Try.func8, Try.ntmps8
  go_wp2_with fail
  generalize w.alloc (.cells #[.int .i64 id, .int .i64 ld, .int .i64 ep, .int .i64 vr, .slice a1 isr.length c1, .slice a2 reps.length c2, .slice a3 add.length c3, .slice a4 rem.length c4, .int .i64 mn] 24) = W0 at *
  refine (shown_any _).mono ?_
  rintro e W1 ⟨rfl, hb⟩
  have HB1 := hid (HB.out.trans (hb.mono HB.out.size))
  have HX1 := hid (blk_under HX.out hb)
  clear hb hsz
  have k0 := cell_blk HX1.out 0 _ rfl
  have k1 := cell_blk HX1.out 1 _ rfl
  have k2 := cell_blk HX1.out 2 _ rfl
  have k3 := cell_blk HX1.out 3 _ rfl
  have k4 := cell_blk HX1.out 4 _ rfl
  have k5 := cell_blk HX1.out 5 _ rfl
  have k6 := cell_blk HX1.out 6 _ rfl
  have k7 := cell_blk HX1.out 7 _ rfl
  have k8 := cell_blk HX1.out 8 _ rfl
  go_wp2_with fail
  refine (G12.out _ HB1.out).mono ?_
  rintro e W2 ⟨rfl, hb⟩
  have HB2 := hid (HB1.out.trans (hb.mono HB1.out.size))
  have HX2 := hid (blk_under HX1.out hb)
  clear hb k0 k1 k2 k3 k4 k5 k6 k7 k8
  have k0 := cell_blk HX2.out 0 _ rfl
  have k1 := cell_blk HX2.out 1 _ rfl
  have k2 := cell_blk HX2.out 2 _ rfl
  have k3 := cell_blk HX2.out 3 _ rfl
  have k4 := cell_blk HX2.out 4 _ rfl
  have k5 := cell_blk HX2.out 5 _ rfl
  have k6 := cell_blk HX2.out 6 _ rfl
  have k7 := cell_blk HX2.out 7 _ rfl
  have k8 := cell_blk HX2.out 8 _ rfl
  cases B1
  · go_wp2_with fail
    go_ret
    exact ⟨rfl, HB2.out⟩
  have HRP := hid (HRT.out rfl)
  have hvv := HRP.out.ver
  have hee := HRP.out.epoch
  simp only at hvv hee
  obtain ⟨hvv1, hvv2⟩ := hvv
  obtain ⟨hee1, hee2⟩ := hee
  by_cases hv9 : 999999900 < vr
  · go_wp2_with fail
    go_ret
    exact ⟨rfl, HB2.out⟩
  by_cases he9 : 999999900 < ep
  · go_wp2_with fail
    go_ret
    exact ⟨rfl, HB2.out⟩
  have HFI0 := hid (fi_start HRP.out (Int.not_lt.1 hv9) (Int.not_lt.1 he9))
  go_upto_region 6 with fail
  have HBA : Hid (Below W2.heap.size W2 (W2.alloc (.cells #[.int .i64 1, .int .i64 2, .int .i64 3, .int .i64 4, .int .i64 5, .int .i64 6, .int .i64 7] 3))) := (Below.refl _ _).alloc (Nat.le_refl _) _
  have HU3 : Hid (IL (W2.alloc (.cells #[.int .i64 1, .int .i64 2, .int .i64 3, .int .i64 4, .int .i64 5, .int .i64 6, .int .i64 7] 3)) (.slice (some ⟨W2.heap.size, 0, none⟩) 7 7) upAll) := il_lit [1, 2, 3, 4, 5, 6, 7] (heap_alloc_new _ _) (lit64 _ rfl) (by decide)
  have HB3 := hid (HB2.out.trans (HBA.out.mono HB2.out.size))
  have HX3 := hid (blk_under HX2.out HBA.out)
  have HP3 := hid (HP.out _ HB3.out)
  have HN3 : Hid (In (fun b => b ≠ w.heap.size) (.slice (some ⟨W2.heap.size, 0, none⟩) 7 7) upAll) := fun _ b off n c e => by
    cases e
    have := lt_blk HX2.out
    omega
  clear HBA k0 k1 k2 k3 k4 k5 k6 k7 k8
  generalize W2.alloc (.cells #[.int .i64 1, .int .i64 2, .int .i64 3, .int .i64 4, .int .i64 5, .int .i64 6, .int .i64 7] 3) = W3 at *
  generalize W2.heap.size = gu at *
  clear HRT HP G12 HX1 HB1 HX HB HX2 HB2 HRP
  go_wp2_with fail
  go_loopg [7, 8, 9] ord.length (fun kx s7 s8 s9 wr => ∃ (k : Nat) (U : List Int) (so : Option Addr) (uc : Nat) (p' : Pt) (cs' : Array Value), k ≤ ord.length ∧ ord.length - k ≤ kx ∧ s7 = .slice so U.length uc ∧ s8 = .int .i64 0 ∧ s9 = .int .i64 (k : Int) ∧ FI p' U ∧ wr.heap[w.heap.size]? = some (.cells cs' 24) ∧ PartM wr (.agg cs') p' ∧ InP (fun b => b ≠ w.heap.size) (.agg cs') p' ∧ IL wr (.slice so U.length uc) U ∧ In (fun b => b ≠ w.heap.size) (.slice so U.length uc) U ∧ Below w.heap.size w wr)
  case atStart => exact ⟨0, upAll, some ⟨gu, 0, none⟩, 7, ⟨id, ld, ep, vr, isr, reps, add, rem, mn⟩, _, Nat.zero_le _, by omega, rfl, rfl, rfl, HFI0.out, HX3.out, HP3.out, HIN.out, HU3.out, HN3.out, HB3.out⟩
  case round =>
    clear HFI0 HX3 HP3 HIN HU3 HN3 HB3
    obtain ⟨k, U, so, uc, p', cs', hk, hkx, rfl, rfl, rfl, hfi, hx, hpp, hin, hu, hun, hbr⟩ := hrel
    obtain ⟨id, ld, ep, vr, isr, reps, add, rem, mn⟩ := p'
    obtain ⟨a1, c1, a2, c2, a3, c3, a4, c4, ecs, _, _, _, _, i0, i1, i2, i3, i4⟩ := hpp.open
    cases ecs
    simp only at hx hpp hin i0 i1 i2 i3 i4
    have HFI := hid hfi
    have HXr := hid hx
    have HPr := hid hpp
    have HIr := hid hin
    have HUr := hid hu
    have HNr := hid hun
    have HBr := hid hbr
    have hU7 : U.length ≤ 7 := few_len 7 U hfi.nod hfi.ids
    clear hfi hx hpp hin hu hun hbr
    by_cases hgo : k < ord.length ∧ k < 20
    · obtain ⟨hlt, h20⟩ := hgo
      have hlt' : (k : Int) < (ord.length : Int) := by omega
      have h20' : (k : Int) < 20 := by omega
      obtain ⟨⟨_, _, e9, _, _, _, hat⟩, hok, _⟩ := QM.out
      cases e9
      obtain ⟨b0, off0, rfl, _, hc⟩ := hat (by intro e; rw [e] at hlt; simp at hlt)
      have hck := kept_cell HBr.out (hc k hlt)
      have hok' := hok ord[k] (by simp)
      generalize ord[k] = y at *
      clear hc hat hok
      have hr := pickI_range y ((U.length : Int) + 1) (by omega)
      have GP := hid (fun W => pick_any y ((U.length : Int) + 1) W hok' (by omega) (by omega))
      obtain ⟨n, hn⟩ : ∃ n : Nat, pickI y ((U.length : Int) + 1) = (n : Int) := ⟨(pickI y ((U.length : Int) + 1)).toNat, by omega⟩
      rw [hn] at GP hr
      have hnU : n ≤ U.length := by omega
      clear hr hn
      have k0 := cell_blk HXr.out 0 _ rfl
      have k1 := cell_blk HXr.out 1 _ rfl
      have k2 := cell_blk HXr.out 2 _ rfl
      have k3 := cell_blk HXr.out 3 _ rfl
      have k4 := cell_blk HXr.out 4 _ rfl
      have k5 := cell_blk HXr.out 5 _ rfl
      have k6 := cell_blk HXr.out 6 _ rfl
      have k7 := cell_blk HXr.out 7 _ rfl
      have k8 := cell_blk HXr.out 8 _ rfl
      go_wp2_with fail
      refine (GP.out _).mono ?_
      rintro e W4 ⟨rfl, rfl⟩
      by_cases hne : n = U.length
      · have hneb : ((n : Int) == (U.length : Int)) = true := by simp [hne]
        have HHne := hid hne
        clear hne
        go_wp2_with fail
        go_roundg (ord.length - (k + 1))
        case measure => omega
        case rel => exact ⟨k + 1, U, so, uc, ⟨id, ld, ep, vr, isr, reps, add, rem, mn⟩, _, by omega, Nat.le_refl _, rfl, rfl, by go_num, HFI.out, HXr.out, HPr.out, HIr.out, HUr.out, HNr.out, HBr.out⟩
      have hneb : ((n : Int) == (U.length : Int)) = false := by simp; omega
      have hnl : n < U.length := by omega
      have hnl' : (n : Int) < (U.length : Int) := by omega
      obtain ⟨⟨_, _, e9, ucap, ucm, _, hat⟩, huok, hufew⟩ := HUr.out
      cases e9
      obtain ⟨ub, uo, rfl, hub, hcu⟩ := hat (by intro e; rw [e] at hnl; simp at hnl)
      have hcn := hcu n hnl
      have hubok := huok U[n] (by simp)
      have HBU : Hid (U[n] ∈ U) := by show _ ∈ _; simp
      have HMC := hid (mem_cut hnl HFI.out.nod)
      have HND := hid (nodup_cut hnl HFI.out.nod)
      generalize hbid : U[n] = bid at *
      clear hcu hat hbid
      go_upto_region 13 with fail
      obtain ⟨V, hV⟩ : ∃ V, U.take n ++ U.drop (n + 1) = V := ⟨_, rfl⟩
      rw [hV] at HMC HND
      have HVL : Hid (V.length + 1 = U.length) := by show _ = _; rw [← hV]; simp; omega
      have HVE : Hid ([] ++ vals (U.take n) ++ vals (U.drop (n + 1)) = vals V) := by show _ = _; rw [← hV]; simp [vals]
      have HVOK : Hid (∀ x ∈ V, I64 x) := fun x hx => huok x ((HMC.out x).1 hx).1
      have HV := hid hV
      clear hV
      obtain ⟨i9, hi9, hz0, hz1, hz2⟩ := info3
      have HBA : Hid (Below wr.heap.size wr (wr.alloc (.cells #[] 3)).drew) := ((Below.refl _ _).alloc (Nat.le_refl _) _).drew
      have HOWN : Hid ((wr.alloc (.cells #[] 3)).drew.ownsRow wr.heap.size 3 1 (.slice (some ⟨wr.heap.size, 0, none⟩) 0 0) 0 []) := ⟨rfl, .inr ⟨wr.heap.size, 0, #[], rfl, Nat.le_refl _, heap_alloc_new _ _, Nat.le_refl _, Nat.zero_le _, rfl, rfl⟩⟩
      have HL1 : Hid ((vals (U.take n)).length = n * 1) := by show _ = _; rw [vals_length, List.length_take]; omega
      have HO1 := hid (vals_one (U.take n))
      have HN1 := hid ((HUr.out.under HBA.out).low n (by omega))
      have HL2 : Hid ((vals (U.drop (n + 1))).length = (U.length - (n + 1)) * 1) := by show _ = _; rw [vals_length, List.length_drop]; omega
      have HO2 := hid (vals_one (U.drop (n + 1)))
      have HN2 : Hid (∀ W, Below wr.heap.size wr W → ∀ j u, (vals (U.drop (n + 1)))[j]? = some u → W.cell? ((⟨ub, uo + (n + 1), none⟩ : Addr).add j) = some u) := fun W hb => (HUr.out.under hb).high (n + 1)
      have hn5 : IntKind.i64.wrap ((n : Int) + 1) = (n : Int) + 1 := IntWalk.i64_in _ (by omega)
      have hn6 : ((n : Int) + 1).toNat = n + 1 := by omega
      have hn7 : (0 : Int) ≤ (n : Int) + 1 := by omega
      have hn8 : (n : Int) + 1 ≤ (U.length : Int) := by omega
      have hn9 : (n : Int) ≤ (uc : Int) := by omega
      have hn10 : (U.length : Int) ≤ (uc : Int) := by omega
      go_cut [7] from 62 to 71 (fun s7 W => ∃ vo vc, s7 = .slice vo V.length vc ∧ Hid (IL W (.slice vo V.length vc) V ∧ In (fun b => wr.heap.size ≤ b) (.slice vo V.length vc) V ∧ Below wr.heap.size wr W))
      case first =>
        by_cases hcap : uc = n + 1
        · have HDR : Hid (U.drop (n + 1) = []) := List.drop_eq_nil_of_le (by omega)
          have hq1 : (n : Int) ≤ (n : Int) + 1 := by omega
          have hq2 : (U.length : Int) ≤ (n : Int) + 1 := by omega
          clear hn9 hn10
          subst hcap
          go_region_law (first
            | (refine step_append_own (by rfl) (.tmp 62) (.tmp 65) 22 (by rfl) wr.heap.size 3 i9 _ 1 8 Try.underlying22 hi9 hz0 hz1 hz2 rfl (by decide) (.slice (some ⟨wr.heap.size, 0, none⟩) 0 0) 0 [] (by simp [Act.eval, Act.put]) (by exact HOWN.out) ⟨ub, uo, none⟩ n (n + 1) (vals (U.take n)) (by simp [Act.eval, Act.put]) HL1.out (by exact HN1.out) HO1.out (by unfold maxLen; omega) (by omega) (by simp) ?_; intro v1 w1 hown1 hg1 _ _; have HB1w := hid (HBA.out.grown hg1 HBA.out.size (fun j hj => by cases hj; exact Nat.le_refl _)); have HW1 := hid hown1; clear hown1 hg1)
            | (refine step_append_own (by rfl) (.tmp 66) (.tmp 70) 22 (by rfl) wr.heap.size 3 i9 _ 1 8 Try.underlying22 hi9 hz0 hz1 hz2 rfl (by decide) v1 (0 + n) ([] ++ vals (U.take n)) (by simp [Act.eval, Act.put]) HW1.out ⟨ub, uo, none⟩ (U.length - (n + 1)) 0 (vals (U.drop (n + 1))) (by simp [Act.eval, Act.put]; omega) HL2.out (fun j u hu => by rw [HDR.out] at hu; simp [vals] at hu) HO2.out (by unfold maxLen; omega) (by omega) (by exact HB1w.out.size) ?_; intro v2 w2 hown2 hg2 _ _; have HB2w := hid (HB1w.out.grown hg2 HB1w.out.size (fun j hj => (World.ownsRow.lt HW1.out j hj).1)); have HW2 := hid hown2; clear hown2 hg2)
            | fail)
          all_goals
            obtain ⟨f1, f2, f3, rfl⟩ := own_shape HW2.out
            have HIL2 : Hid (IL w2 (.slice f1 f2 f3) V ∧ In (fun b => wr.heap.size ≤ b) (.slice f1 f2 f3) V ∧ Below wr.heap.size wr w2) := by
              have h9 := HW2.out
              have hin := in_own (l := V) h9
              rw [HVE.out, show 0 + n + (U.length - (n + 1)) = V.length by have := HVL.out; omega] at h9
              exact ⟨IL.of h9 HVOK.out (by have := HVL.out; omega), hin, HB2w.out⟩
            obtain ⟨f4, f5, ef, _⟩ := HIL2.out.1.shape
            cases ef
            clear HW1 HW2 HB1w HB2w
            go_wp2_with fail
            go_meet
            case rel => exact ⟨_, _, rfl, HIL2.out⟩
        · go_region_law (first
            | (refine step_append_own (by rfl) (.tmp 62) (.tmp 65) 22 (by rfl) wr.heap.size 3 i9 _ 1 8 Try.underlying22 hi9 hz0 hz1 hz2 rfl (by decide) (.slice (some ⟨wr.heap.size, 0, none⟩) 0 0) 0 [] (by simp [Act.eval, Act.put]) (by exact HOWN.out) ⟨ub, uo, none⟩ n uc (vals (U.take n)) (by simp [Act.eval, Act.put]) HL1.out (by exact HN1.out) HO1.out (by unfold maxLen; omega) (by omega) (by simp) ?_; intro v1 w1 hown1 hg1 _ _; have HB1w := hid (HBA.out.grown hg1 HBA.out.size (fun j hj => by cases hj; exact Nat.le_refl _)); have HW1 := hid hown1; clear hown1 hg1)
            | (refine step_append_own (by rfl) (.tmp 66) (.tmp 70) 22 (by rfl) wr.heap.size 3 i9 _ 1 8 Try.underlying22 hi9 hz0 hz1 hz2 rfl (by decide) v1 (0 + n) ([] ++ vals (U.take n)) (by simp [Act.eval, Act.put]) HW1.out ⟨ub, uo + (n + 1), none⟩ (U.length - (n + 1)) (uc - (n + 1)) (vals (U.drop (n + 1))) (by simp [Act.eval, Act.put, hcap]) HL2.out (by exact HN2.out _ HB1w.out) (HO2.out) (by unfold maxLen; omega) (by omega) (by exact HB1w.out.size) ?_; intro v2 w2 hown2 hg2 _ _; have HB2w := hid (HB1w.out.grown hg2 HB1w.out.size (fun j hj => (World.ownsRow.lt HW1.out j hj).1)); have HW2 := hid hown2; clear hown2 hg2)
            | fail)
          all_goals
            obtain ⟨f1, f2, f3, rfl⟩ := own_shape HW2.out
            have HIL2 : Hid (IL w2 (.slice f1 f2 f3) V ∧ In (fun b => wr.heap.size ≤ b) (.slice f1 f2 f3) V ∧ Below wr.heap.size wr w2) := by
              have h9 := HW2.out
              have hin := in_own (l := V) h9
              rw [HVE.out, show 0 + n + (U.length - (n + 1)) = V.length by have := HVL.out; omega] at h9
              exact ⟨IL.of h9 HVOK.out (by have := HVL.out; omega), hin, HB2w.out⟩
            obtain ⟨f4, f5, ef, _⟩ := HIL2.out.1.shape
            cases ef
            clear HW1 HW2 HB1w HB2w
            go_wp2_with fail
            go_meet
            case rel => exact ⟨_, _, rfl, HIL2.out⟩
      case rest =>
        obtain ⟨vo, vc, rfl, HQ⟩ := hcut
        generalize wc = W5 at *
        have HX5 := hid (blk_under HXr.out HQ.out.2.2)
        have HB5 := hid (HBr.out.trans (HQ.out.2.2.mono HBr.out.size))
        have HP5 := hid (HPr.out.under HQ.out.2.2)
        have HWL : Hid (w.heap.size < wr.heap.size) := lt_blk HXr.out
        have HNV : Hid (In (fun b => b ≠ w.heap.size) (.slice vo V.length vc) V) := HQ.out.2.1.mono fun b hb => by have := HWL.out; omega
        have HST := hid (fi_step HFI.out HBU.out HMC.out HVL.out HND.out)
        have GF := hid (fence_any HP5.out bid hubok HQ.out.1)
        clear k0 k1 k2 k3 k4 k5 k6 k7 k8 hck hcn HN1 HN2 HL1 HL2 HO1 HO2 HOWN HBA HVE
        have k0 := cell_blk HX5.out 0 _ rfl
        have k1 := cell_blk HX5.out 1 _ rfl
        have k2 := cell_blk HX5.out 2 _ rfl
        have k3 := cell_blk HX5.out 3 _ rfl
        have k4 := cell_blk HX5.out 4 _ rfl
        have k5 := cell_blk HX5.out 5 _ rfl
        have k6 := cell_blk HX5.out 6 _ rfl
        have k7 := cell_blk HX5.out 7 _ rfl
        have k8 := cell_blk HX5.out 8 _ rfl
        obtain ⟨qq, hq1, hq2, hq3, hq4⟩ := HST.out
        obtain ⟨rid, rld, rep, rvr, rl1, rl2, rl3, rl4, rmn⟩ := qq
        simp only at hq3 hq4
        rw [hq1] at GF
        have HQ2 := hid hq2
        clear hq1 hq2
        go_wp2_with fail
        refine GF.out.mono ?_
        rintro e W6 ⟨v', rfl, h1, h2, hb⟩
        have HLT : Hid (w.heap.size < W5.heap.size) := lt_blk HX5.out
        have HI2 := hid (h2.mono (Y := fun b => b ≠ w.heap.size) fun b hx => by have := HLT.out; omega)
        obtain ⟨x1, y1, x2, y2, x3, y3, x4, y4, rfl, _⟩ := h1.open
        have H1 : Hid (PartM W6 (.agg #[.int .i64 rid, .int .i64 rld, .int .i64 rep, .int .i64 rvr, .slice x1 rl1.length y1, .slice x2 rl2.length y2, .slice x3 rl3.length y3, .slice x4 rl4.length y4, .int .i64 rmn]) ⟨rid, rld, rep, rvr, rl1, rl2, rl3, rl4, rmn⟩) := h1
        have HI3 : Hid (InP (fun b => b ≠ w.heap.size) (.agg #[.int .i64 rid, .int .i64 rld, .int .i64 rep, .int .i64 rvr, .slice x1 rl1.length y1, .slice x2 rl2.length y2, .slice x3 rl3.length y3, .slice x4 rl4.length y4, .int .i64 rmn]) ⟨rid, rld, rep, rvr, rl1, rl2, rl3, rl4, rmn⟩) := HI2.out
        have HX6 := hid (blk_under HX5.out hb)
        have HB6 := hid (HB5.out.trans (hb.mono HB5.out.size))
        have HU6 := hid ((HQ.out.1).under hb)
        clear h1 h2 hb HI2 GF k0 k1 k2 k3 k4 k5 k6 k7 k8
        have k0 := cell_blk HX6.out 0 _ rfl
        have k1 := cell_blk HX6.out 1 _ rfl
        have k2 := cell_blk HX6.out 2 _ rfl
        have k3 := cell_blk HX6.out 3 _ rfl
        have k4 := cell_blk HX6.out 4 _ rfl
        have k5 := cell_blk HX6.out 5 _ rfl
        have k6 := cell_blk HX6.out 6 _ rfl
        have k7 := cell_blk HX6.out 7 _ rfl
        have k8 := cell_blk HX6.out 8 _ rfl
        have fk := frz_blk HX6.out
        go_upto_region 15 with fail
        obtain ⟨hoff, hsz9⟩ := nine_off W6 w.heap.size (.int .i64 rid) (.int .i64 rld) (.int .i64 rep) (.int .i64 rvr) (.slice x1 rl1.length y1) (.slice x2 rl2.length y2) (.slice x3 rl3.length y3) (.slice x4 rl4.length y4) (.int .i64 rmn)
        have HX9 := hid (nine_q HX6.out rfl (.int .i64 rid) (.int .i64 rld) (.int .i64 rep) (.int .i64 rvr) (.slice x1 rl1.length y1) (.slice x2 rl2.length y2) (.slice x3 rl3.length y3) (.slice x4 rl4.length y4) (.int .i64 rmn))
        have HB9 := hid (nine_below HB6.out (Nat.le_refl _) (.int .i64 rid) (.int .i64 rld) (.int .i64 rep) (.int .i64 rvr) (.slice x1 rl1.length y1) (.slice x2 rl2.length y2) (.slice x3 rl3.length y3) (.slice x4 rl4.length y4) (.int .i64 rmn))
        have HP9 := hid (H1.out.off HI3.out hoff hsz9)
        have HU9 := hid (HU6.out.off (q := w.heap.size) HNV.out hoff hsz9)
        clear hoff hsz9 k0 k1 k2 k3 k4 k5 k6 k7 k8 fk
        generalize (((((((((W6.setCell ⟨w.heap.size, 0, none⟩ (.int .i64 rid)).setCell ⟨w.heap.size, 1, none⟩ (.int .i64 rld)).setCell ⟨w.heap.size, 2, none⟩ (.int .i64 rep)).setCell ⟨w.heap.size, 3, none⟩ (.int .i64 rvr)).setCell ⟨w.heap.size, 4, none⟩ (.slice x1 rl1.length y1)).setCell ⟨w.heap.size, 5, none⟩ (.slice x2 rl2.length y2)).setCell ⟨w.heap.size, 6, none⟩ (.slice x3 rl3.length y3)).setCell ⟨w.heap.size, 7, none⟩ (.slice x4 rl4.length y4)).setCell ⟨w.heap.size, 8, none⟩ (.int .i64 rmn)) = W9 at *
        have k0 := cell_blk HX9.out 0 _ rfl
        have k1 := cell_blk HX9.out 1 _ rfl
        have k2 := cell_blk HX9.out 2 _ rfl
        have k3 := cell_blk HX9.out 3 _ rfl
        have k4 := cell_blk HX9.out 4 _ rfl
        have k5 := cell_blk HX9.out 5 _ rfl
        have k6 := cell_blk HX9.out 6 _ rfl
        have k7 := cell_blk HX9.out 7 _ rfl
        have k8 := cell_blk HX9.out 8 _ rfl
        have HIS : Hid (IL W9 (.slice x1 rl1.length y1) rl1) := by
          obtain ⟨_, _, _, _, e9, g1, _⟩ := HP9.out
          cases e9
          exact g1
        have GI := hid (in_any HIS.out bid hubok)
        go_wp2_with fail
        refine GI.out.mono ?_
        rintro e W10 ⟨rfl, rfl⟩
        have hlb : (rld == bid) = false := by simp [hq3]
        cases hbi : hasB rl1 bid with
        | false =>
          go_wp2_with fail
          go_roundg (ord.length - (k + 1))
          case measure => omega
          case rel => exact ⟨k + 1, V, vo, vc, ⟨rid, rld, rep, rvr, rl1, rl2, rl3, rl4, rmn⟩, _, by omega, Nat.le_refl _, rfl, rfl, by go_num, HQ2.out, HX9.out, HP9.out, HI3.out, HU9.out, HNV.out, HB9.out⟩
        | true =>
          have hl1 := hq4 (hasB_iff.1 hbi)
          have hl1' : ¬ (1 : Int) < (rl1.length : Int) := by omega
          clear hbi
          go_wp2_with fail
          go_roundg (ord.length - (k + 1))
          case measure => omega
          case rel => exact ⟨k + 1, V, vo, vc, ⟨rid, rld, rep, rvr, rl1, rl2, rl3, rl4, rmn⟩, _, by omega, Nat.le_refl _, rfl, rfl, by go_num, HQ2.out, HX9.out, HP9.out, HI3.out, HU9.out, HNV.out, HB9.out⟩
    · have HGO := hid hgo
      by_cases hlt : k < ord.length
      · have hlt' : (k : Int) < (ord.length : Int) := by omega
        have h20' : ¬ (k : Int) < 20 := by omega
        clear hgo
        go_wp2_with fail
        go_loopg [7, 8] U.length (fun kx s7 s8 wr => ∃ (U : List Int) (so : Option Addr) (uc : Nat) (p' : Pt) (cs' : Array Value), U.length ≤ kx ∧ s7 = .slice so U.length uc ∧ s8 = .int .i64 0 ∧ FI p' U ∧ wr.heap[w.heap.size]? = some (.cells cs' 24) ∧ PartM wr (.agg cs') p' ∧ InP (fun b => b ≠ w.heap.size) (.agg cs') p' ∧ IL wr (.slice so U.length uc) U ∧ In (fun b => b ≠ w.heap.size) (.slice so U.length uc) U ∧ Below w.heap.size w wr)
        case atStart => exact ⟨U, so, uc, ⟨id, ld, ep, vr, isr, reps, add, rem, mn⟩, _, Nat.le_refl _, rfl, rfl, HFI.out, HXr.out, HPr.out, HIr.out, HUr.out, HNr.out, HBr.out⟩
        case round =>
          clear HFI HXr HPr HIr HUr HNr HBr hU7
          obtain ⟨U, so, uc, p', cs', hkx, rfl, rfl, hfi, hx, hpp, hin, hu, hun, hbr⟩ := hrel
          obtain ⟨id, ld, ep, vr, isr, reps, add, rem, mn⟩ := p'
          obtain ⟨a1, c1, a2, c2, a3, c3, a4, c4, ecs, _, _, _, _, i0, i1, i2, i3, i4⟩ := hpp.open
          cases ecs
          simp only at hx hpp hin i0 i1 i2 i3 i4
          have HFI := hid hfi
          have HXr := hid hx
          have HPr := hid hpp
          have HIr := hid hin
          have HUr := hid hu
          have HNr := hid hun
          have HBr := hid hbr
          have hU7 : U.length ≤ 7 := few_len 7 U hfi.nod hfi.ids
          clear hfi hx hpp hin hu hun hbr
          cases U with
          | cons bid V =>
            have hUl : (0 : Int) < ((bid :: V).length : Int) := by rw [List.length_cons]; omega
            obtain ⟨⟨_, _, e9, ucap, ucm, _, hat⟩, huok, hufew⟩ := HUr.out
            cases e9
            obtain ⟨ub, uo, rfl, hub, hcu⟩ := hat (by simp)
            have hcn := hcu 0 (by simp)
            simp only [List.getElem_cons_zero, Nat.add_zero] at hcn
            have hubok : I64 bid := huok bid (by simp)
            have HT := hid HUr.out.tail
            have hcp : (1 : Int) ≤ (uc : Int) := by simp at ucap; omega
            have hl1 : (1 : Int) ≤ ((bid :: V).length : Int) := by rw [List.length_cons]; omega
            have hlc : ((bid :: V).length : Int) ≤ (uc : Int) := by omega
            have HVL : Hid (V.length + 1 = (bid :: V).length) := by show _ = _; simp
            have hndc := List.nodup_cons.1 HFI.out.nod
            have HMC : Hid (∀ x, x ∈ V ↔ (x ∈ bid :: V ∧ x ≠ bid)) := fun x => ⟨fun hx => ⟨by simp [hx], fun e => hndc.1 (e ▸ hx)⟩, fun ⟨h1, h2⟩ => (List.mem_cons.1 h1).resolve_left h2⟩
            have HST := hid (fi_step HFI.out (by simp) HMC.out HVL.out hndc.2)
            have HNB : Hid (ub ≠ w.heap.size) := HNr.out (by simp) ub uo _ _ rfl
            have hvl : (bid :: V).length - 1 = V.length := by simp
            clear hcu hat hndc
            have k0 := cell_blk HXr.out 0 _ rfl
            have k1 := cell_blk HXr.out 1 _ rfl
            have k2 := cell_blk HXr.out 2 _ rfl
            have k3 := cell_blk HXr.out 3 _ rfl
            have k4 := cell_blk HXr.out 4 _ rfl
            have k5 := cell_blk HXr.out 5 _ rfl
            have k6 := cell_blk HXr.out 6 _ rfl
            have k7 := cell_blk HXr.out 7 _ rfl
            have k8 := cell_blk HXr.out 8 _ rfl
            by_cases hc1 : uc = 1
            · have HC1 := hid hc1
              have HVV := hid (HT.out.2 hc1)
              have HNV : Hid (In (fun b => b ≠ w.heap.size) (.slice (some ⟨ub, uo, none⟩) V.length 0) V) := fun _ b off n c e => by cases e; exact HNB.out
              have GF := hid (fence_any HPr.out bid hubok HVV.out)
              subst hc1
              obtain ⟨qq, hq1, hq2, hq3, hq4⟩ := HST.out
              obtain ⟨rid, rld, rep, rvr, rl1, rl2, rl3, rl4, rmn⟩ := qq
              simp only at hq3 hq4
              rw [hq1] at GF
              have HQ2 := hid hq2
              clear hq1 hq2
              go_wp2_with fail
              refine GF.out.mono ?_
              rintro e W6 ⟨v', rfl, h1, h2, hb⟩
              have HLT : Hid (w.heap.size < wr.heap.size) := lt_blk HXr.out
              have HI2 := hid (h2.mono (Y := fun b => b ≠ w.heap.size) fun b hx => by have := HLT.out; omega)
              obtain ⟨x1, y1, x2, y2, x3, y3, x4, y4, rfl, _⟩ := h1.open
              have H1 : Hid (PartM W6 (.agg #[.int .i64 rid, .int .i64 rld, .int .i64 rep, .int .i64 rvr, .slice x1 rl1.length y1, .slice x2 rl2.length y2, .slice x3 rl3.length y3, .slice x4 rl4.length y4, .int .i64 rmn]) ⟨rid, rld, rep, rvr, rl1, rl2, rl3, rl4, rmn⟩) := h1
              have HI3 : Hid (InP (fun b => b ≠ w.heap.size) (.agg #[.int .i64 rid, .int .i64 rld, .int .i64 rep, .int .i64 rvr, .slice x1 rl1.length y1, .slice x2 rl2.length y2, .slice x3 rl3.length y3, .slice x4 rl4.length y4, .int .i64 rmn]) ⟨rid, rld, rep, rvr, rl1, rl2, rl3, rl4, rmn⟩) := HI2.out
              have HX6 := hid (blk_under HXr.out hb)
              have HB6 := hid (HBr.out.trans (hb.mono HBr.out.size))
              have HU6 := hid ((HVV.out).under hb)
              clear h1 h2 hb HI2 GF k0 k1 k2 k3 k4 k5 k6 k7 k8
              have k0 := cell_blk HX6.out 0 _ rfl
              have k1 := cell_blk HX6.out 1 _ rfl
              have k2 := cell_blk HX6.out 2 _ rfl
              have k3 := cell_blk HX6.out 3 _ rfl
              have k4 := cell_blk HX6.out 4 _ rfl
              have k5 := cell_blk HX6.out 5 _ rfl
              have k6 := cell_blk HX6.out 6 _ rfl
              have k7 := cell_blk HX6.out 7 _ rfl
              have k8 := cell_blk HX6.out 8 _ rfl
              have fk := frz_blk HX6.out
              go_upto_region 24 with fail
              obtain ⟨hoff, hsz9⟩ := nine_off W6 w.heap.size (.int .i64 rid) (.int .i64 rld) (.int .i64 rep) (.int .i64 rvr) (.slice x1 rl1.length y1) (.slice x2 rl2.length y2) (.slice x3 rl3.length y3) (.slice x4 rl4.length y4) (.int .i64 rmn)
              have HX9 := hid (nine_q HX6.out rfl (.int .i64 rid) (.int .i64 rld) (.int .i64 rep) (.int .i64 rvr) (.slice x1 rl1.length y1) (.slice x2 rl2.length y2) (.slice x3 rl3.length y3) (.slice x4 rl4.length y4) (.int .i64 rmn))
              have HB9 := hid (nine_below HB6.out (Nat.le_refl _) (.int .i64 rid) (.int .i64 rld) (.int .i64 rep) (.int .i64 rvr) (.slice x1 rl1.length y1) (.slice x2 rl2.length y2) (.slice x3 rl3.length y3) (.slice x4 rl4.length y4) (.int .i64 rmn))
              have HP9 := hid (H1.out.off HI3.out hoff hsz9)
              have HU9 := hid (HU6.out.off (q := w.heap.size) HNV.out hoff hsz9)
              clear hoff hsz9 k0 k1 k2 k3 k4 k5 k6 k7 k8 fk
              generalize (((((((((W6.setCell ⟨w.heap.size, 0, none⟩ (.int .i64 rid)).setCell ⟨w.heap.size, 1, none⟩ (.int .i64 rld)).setCell ⟨w.heap.size, 2, none⟩ (.int .i64 rep)).setCell ⟨w.heap.size, 3, none⟩ (.int .i64 rvr)).setCell ⟨w.heap.size, 4, none⟩ (.slice x1 rl1.length y1)).setCell ⟨w.heap.size, 5, none⟩ (.slice x2 rl2.length y2)).setCell ⟨w.heap.size, 6, none⟩ (.slice x3 rl3.length y3)).setCell ⟨w.heap.size, 7, none⟩ (.slice x4 rl4.length y4)).setCell ⟨w.heap.size, 8, none⟩ (.int .i64 rmn)) = W9 at *
              have k0 := cell_blk HX9.out 0 _ rfl
              have k1 := cell_blk HX9.out 1 _ rfl
              have k2 := cell_blk HX9.out 2 _ rfl
              have k3 := cell_blk HX9.out 3 _ rfl
              have k4 := cell_blk HX9.out 4 _ rfl
              have k5 := cell_blk HX9.out 5 _ rfl
              have k6 := cell_blk HX9.out 6 _ rfl
              have k7 := cell_blk HX9.out 7 _ rfl
              have k8 := cell_blk HX9.out 8 _ rfl
              have HIS : Hid (IL W9 (.slice x1 rl1.length y1) rl1) := by
                obtain ⟨_, _, _, _, e9, g1, _⟩ := HP9.out
                cases e9
                exact g1
              go_wp2_with fail
              go_roundg V.length
              case measure => simp only [List.length_cons] at hkx; omega
              case rel => exact ⟨V, some ⟨ub, uo, none⟩, 0, ⟨rid, rld, rep, rvr, rl1, rl2, rl3, rl4, rmn⟩, _, Nat.le_refl _, rfl, rfl, HQ2.out, HX9.out, HP9.out, HI3.out, HU9.out, HNV.out, HB9.out⟩
            · have HVV := hid HT.out.1
              have HNV : Hid (In (fun b => b ≠ w.heap.size) (.slice (some ⟨ub, uo + 1, none⟩) V.length (uc - 1)) V) := fun _ b off n c e => by cases e; exact HNB.out
              have GF := hid (fence_any HPr.out bid hubok HVV.out)
              obtain ⟨qq, hq1, hq2, hq3, hq4⟩ := HST.out
              obtain ⟨rid, rld, rep, rvr, rl1, rl2, rl3, rl4, rmn⟩ := qq
              simp only at hq3 hq4
              rw [hq1] at GF
              have HQ2 := hid hq2
              clear hq1 hq2
              go_wp2_with fail
              refine GF.out.mono ?_
              rintro e W6 ⟨v', rfl, h1, h2, hb⟩
              have HLT : Hid (w.heap.size < wr.heap.size) := lt_blk HXr.out
              have HI2 := hid (h2.mono (Y := fun b => b ≠ w.heap.size) fun b hx => by have := HLT.out; omega)
              obtain ⟨x1, y1, x2, y2, x3, y3, x4, y4, rfl, _⟩ := h1.open
              have H1 : Hid (PartM W6 (.agg #[.int .i64 rid, .int .i64 rld, .int .i64 rep, .int .i64 rvr, .slice x1 rl1.length y1, .slice x2 rl2.length y2, .slice x3 rl3.length y3, .slice x4 rl4.length y4, .int .i64 rmn]) ⟨rid, rld, rep, rvr, rl1, rl2, rl3, rl4, rmn⟩) := h1
              have HI3 : Hid (InP (fun b => b ≠ w.heap.size) (.agg #[.int .i64 rid, .int .i64 rld, .int .i64 rep, .int .i64 rvr, .slice x1 rl1.length y1, .slice x2 rl2.length y2, .slice x3 rl3.length y3, .slice x4 rl4.length y4, .int .i64 rmn]) ⟨rid, rld, rep, rvr, rl1, rl2, rl3, rl4, rmn⟩) := HI2.out
              have HX6 := hid (blk_under HXr.out hb)
              have HB6 := hid (HBr.out.trans (hb.mono HBr.out.size))
              have HU6 := hid ((HVV.out).under hb)
              clear h1 h2 hb HI2 GF k0 k1 k2 k3 k4 k5 k6 k7 k8
              have k0 := cell_blk HX6.out 0 _ rfl
              have k1 := cell_blk HX6.out 1 _ rfl
              have k2 := cell_blk HX6.out 2 _ rfl
              have k3 := cell_blk HX6.out 3 _ rfl
              have k4 := cell_blk HX6.out 4 _ rfl
              have k5 := cell_blk HX6.out 5 _ rfl
              have k6 := cell_blk HX6.out 6 _ rfl
              have k7 := cell_blk HX6.out 7 _ rfl
              have k8 := cell_blk HX6.out 8 _ rfl
              have fk := frz_blk HX6.out
              go_upto_region 24 with fail
              obtain ⟨hoff, hsz9⟩ := nine_off W6 w.heap.size (.int .i64 rid) (.int .i64 rld) (.int .i64 rep) (.int .i64 rvr) (.slice x1 rl1.length y1) (.slice x2 rl2.length y2) (.slice x3 rl3.length y3) (.slice x4 rl4.length y4) (.int .i64 rmn)
              have HX9 := hid (nine_q HX6.out rfl (.int .i64 rid) (.int .i64 rld) (.int .i64 rep) (.int .i64 rvr) (.slice x1 rl1.length y1) (.slice x2 rl2.length y2) (.slice x3 rl3.length y3) (.slice x4 rl4.length y4) (.int .i64 rmn))
              have HB9 := hid (nine_below HB6.out (Nat.le_refl _) (.int .i64 rid) (.int .i64 rld) (.int .i64 rep) (.int .i64 rvr) (.slice x1 rl1.length y1) (.slice x2 rl2.length y2) (.slice x3 rl3.length y3) (.slice x4 rl4.length y4) (.int .i64 rmn))
              have HP9 := hid (H1.out.off HI3.out hoff hsz9)
              have HU9 := hid (HU6.out.off (q := w.heap.size) HNV.out hoff hsz9)
              clear hoff hsz9 k0 k1 k2 k3 k4 k5 k6 k7 k8 fk
              generalize (((((((((W6.setCell ⟨w.heap.size, 0, none⟩ (.int .i64 rid)).setCell ⟨w.heap.size, 1, none⟩ (.int .i64 rld)).setCell ⟨w.heap.size, 2, none⟩ (.int .i64 rep)).setCell ⟨w.heap.size, 3, none⟩ (.int .i64 rvr)).setCell ⟨w.heap.size, 4, none⟩ (.slice x1 rl1.length y1)).setCell ⟨w.heap.size, 5, none⟩ (.slice x2 rl2.length y2)).setCell ⟨w.heap.size, 6, none⟩ (.slice x3 rl3.length y3)).setCell ⟨w.heap.size, 7, none⟩ (.slice x4 rl4.length y4)).setCell ⟨w.heap.size, 8, none⟩ (.int .i64 rmn)) = W9 at *
              have k0 := cell_blk HX9.out 0 _ rfl
              have k1 := cell_blk HX9.out 1 _ rfl
              have k2 := cell_blk HX9.out 2 _ rfl
              have k3 := cell_blk HX9.out 3 _ rfl
              have k4 := cell_blk HX9.out 4 _ rfl
              have k5 := cell_blk HX9.out 5 _ rfl
              have k6 := cell_blk HX9.out 6 _ rfl
              have k7 := cell_blk HX9.out 7 _ rfl
              have k8 := cell_blk HX9.out 8 _ rfl
              have HIS : Hid (IL W9 (.slice x1 rl1.length y1) rl1) := by
                obtain ⟨_, _, _, _, e9, g1, _⟩ := HP9.out
                cases e9
                exact g1
              go_wp2_with fail
              go_roundg V.length
              case measure => simp only [List.length_cons] at hkx; omega
              case rel => exact ⟨V, some ⟨ub, uo + 1, none⟩, uc - 1, ⟨rid, rld, rep, rvr, rl1, rl2, rl3, rl4, rmn⟩, _, Nat.le_refl _, rfl, rfl, HQ2.out, HX9.out, HP9.out, HI3.out, HU9.out, HNV.out, HB9.out⟩
          | nil =>
            obtain ⟨hl0, x, hxi, hbk⟩ := fi_end HFI.out
            simp only at hl0 hxi hbk
            subst hl0 hxi
            obtain ⟨⟨_, _, e9, _, _, _, hat⟩, hiok, _⟩ := (show IL wr (.slice a1 1 c1) [x] from by
              obtain ⟨_, _, _, _, e9, g1, _⟩ := HPr.out
              cases e9
              exact g1)
            cases e9
            obtain ⟨ib, io, rfl, hib, hci⟩ := hat (by simp)
            have ki := hci 0 (by simp)
            simp only [List.getElem_cons_zero, Nat.add_zero] at ki
            have hxok : I64 x := hiok x (by simp)
            have HKI := hid ki
            clear hci hat hiok
            have hep9 := HFI.out.epoch
            have hep8 := HFI.out.right.epoch
            simp only [List.length_nil] at hep9 hep8
            obtain ⟨hep7, hep6⟩ := hep8
            have HX3 : Hid (wr.heap[w.heap.size]? = some (.cells #[.int .i64 id, .int .i64 0, .int .i64 ep, .int .i64 vr, .slice (some ⟨ib, io, none⟩) 1 c1, .slice a2 reps.length c2, .slice a3 add.length c3, .slice a4 rem.length c4, .int .i64 mn] 24)) := HXr.out
            have HP3 : Hid (PartM wr (.agg #[.int .i64 id, .int .i64 0, .int .i64 ep, .int .i64 vr, .slice (some ⟨ib, io, none⟩) 1 c1, .slice a2 reps.length c2, .slice a3 add.length c3, .slice a4 rem.length c4, .int .i64 mn]) ⟨id, 0, ep, vr, [x], reps, add, rem, mn⟩) := HPr.out
            have k0 := cell_blk HX3.out 0 _ rfl
            have k1 := cell_blk HX3.out 1 _ rfl
            have k2 := cell_blk HX3.out 2 _ rfl
            have k3 := cell_blk HX3.out 3 _ rfl
            have k4 := cell_blk HX3.out 4 _ rfl
            have k5 := cell_blk HX3.out 5 _ rfl
            have k6 := cell_blk HX3.out 6 _ rfl
            have k7 := cell_blk HX3.out 7 _ rfl
            have k8 := cell_blk HX3.out 8 _ rfl
            have G26 : Hid (∀ W, Below wr.heap.size wr W → Calls Try.prog 26 #[.agg #[.int .i64 id, .int .i64 0, .int .i64 ep, .int .i64 vr, .slice (some ⟨ib, io, none⟩) 1 c1, .slice a2 reps.length c2, .slice a3 add.length c3, .slice a4 rem.length c4, .int .i64 mn], .int .i64 x] W fun e w' => Res (fun b => W.heap.size ≤ b) W (⟨id, x, ep + 1, vr + 1, [x], reps, add, rem, mn⟩, 0) e w') := fun W hb => by
              have := back_any (HP3.out.under hb) x hxok
              rw [hbk] at this
              exact this
            have hws : w.heap.size < wr.heap.size := lt_blk HX3.out
            have hib2 : ib < wr.heap.size := hib
            have hw1 : ¬ w.heap.size = wr.heap.size := by omega
            have hw2 : ¬ wr.heap.size = w.heap.size := by omega
            have hw3 : ¬ ib = wr.heap.size := by omega
            have hw4 : ¬ wr.heap.size = ib := by omega
            have HZQ : Hid ((wr.alloc (.cells #[.int .i64 0, .int .i64 0, .int .i64 0, .int .i64 0, .slice none 0 0, .slice none 0 0, .slice none 0 0, .slice none 0 0, .int .i64 0] 24)).heap[wr.heap.size]? = some (.cells #[.int .i64 0, .int .i64 0, .int .i64 0, .int .i64 0, .slice none 0 0, .slice none 0 0, .slice none 0 0, .slice none 0 0, .int .i64 0] 24)) := heap_alloc_new _ _
            have HZB : Hid (Below wr.heap.size wr (wr.alloc (.cells #[.int .i64 0, .int .i64 0, .int .i64 0, .int .i64 0, .slice none 0 0, .slice none 0 0, .slice none 0 0, .slice none 0 0, .int .i64 0] 24))) := (Below.refl _ _).alloc (Nat.le_refl _) _
            clear hbk hib
            go_upto_region 28 with fail
            go_cut [8, 14] from 124 to 132 (fun s8 s14 W => ∃ q : Nat, s14 = .pointer (some ⟨q, 0, none⟩) ∧ s8 = .int .i64 0 ∧ Hid (W.cell? ⟨q, 1, none⟩ = some (.int .i64 x) ∧ W.cell? ⟨q, 2, none⟩ = some (.int .i64 (ep + 1)) ∧ W.cell? ⟨w.heap.size, 2, none⟩ = some (.int .i64 ep) ∧ W.cell? ⟨w.heap.size, 4, none⟩ = some (.slice (some ⟨ib, io, none⟩) 1 c1) ∧ W.cell? ⟨ib, io, none⟩ = some (.int .i64 x) ∧ Below w.heap.size w W))
            case first =>
              go_region_held3 (fun w' => w'.cell? ⟨w.heap.size, 0, none⟩ = some (.int .i64 id) ∧ w'.cell? ⟨w.heap.size, 1, none⟩ = some (.int .i64 0) ∧ w'.cell? ⟨w.heap.size, 2, none⟩ = some (.int .i64 ep) ∧ w'.cell? ⟨w.heap.size, 3, none⟩ = some (.int .i64 vr) ∧ w'.cell? ⟨w.heap.size, 4, none⟩ = some (.slice (some ⟨ib, io, none⟩) 1 c1) ∧ w'.cell? ⟨w.heap.size, 5, none⟩ = some (.slice a2 reps.length c2) ∧ w'.cell? ⟨w.heap.size, 6, none⟩ = some (.slice a3 add.length c3) ∧ w'.cell? ⟨w.heap.size, 7, none⟩ = some (.slice a4 rem.length c4) ∧ w'.cell? ⟨w.heap.size, 8, none⟩ = some (.int .i64 mn) ∧ w'.cell? ⟨ib, io, none⟩ = some (.int .i64 x)) (go_keep)
                (first
                | (go_at_call 26; refine (G26.out _ (by first | exact Below.refl _ _ | exact (Below.refl _ _).drew)).mono ?_; rintro e W2 ⟨v', rfl, h1, h2, hb0⟩; have hb : Below wr.heap.size wr W2 := (by first | exact hb0 | exact (Below.refl _ _).drew.trans hb0); have HX2 := hid (blk_under HX3.out hb); have HA2 := hid hb; obtain ⟨x1, y1, x2, y2, x3, y3, x4, y4, rfl, _⟩ := h1.open; have ki0 := HKI.out; clear k0 k1 k2 k3 k4 k5 k6 k7 k8 ki; have k0 := cell_blk HX2.out 0 _ rfl; have k1 := cell_blk HX2.out 1 _ rfl; have k2 := cell_blk HX2.out 2 _ rfl; have k3 := cell_blk HX2.out 3 _ rfl; have k4 := cell_blk HX2.out 4 _ rfl; have k5 := cell_blk HX2.out 5 _ rfl; have k6 := cell_blk HX2.out 6 _ rfl; have k7 := cell_blk HX2.out 7 _ rfl; have k8 := cell_blk HX2.out 8 _ rfl; have ki := kept_cell hb ki0; clear hb hb0 h1 h2 ki0; have hs2 := HA2.out.size; have hw5 : ¬ w.heap.size = W2.heap.size := (by omega); have hw6 : ¬ W2.heap.size = w.heap.size := (by omega); have hw7 : ¬ ib = W2.heap.size := (by omega); have hw8 : ¬ W2.heap.size = ib := (by omega))
                | (go_at_call 26; refine (G26.out _ (by first | exact HZB.out | exact HZB.out.drew | exact (Below.refl _ _).drew.alloc (Nat.le_refl _) _)).mono ?_; rintro e W2 ⟨v', rfl, h1, h2, hb0⟩; have hbq : Below (wr.alloc (.cells #[.int .i64 0, .int .i64 0, .int .i64 0, .int .i64 0, .slice none 0 0, .slice none 0 0, .slice none 0 0, .slice none 0 0, .int .i64 0] 24)).heap.size (wr.alloc (.cells #[.int .i64 0, .int .i64 0, .int .i64 0, .int .i64 0, .slice none 0 0, .slice none 0 0, .slice none 0 0, .slice none 0 0, .int .i64 0] 24)) W2 := (by first | exact hb0 | exact (Below.refl _ _).drew.trans hb0); have hb := HZB.out.trans (hbq.mono HZB.out.size); have HX2 := hid (blk_under HX3.out hb); have HQ2 := hid (blk_under HZQ.out hbq); have HB2q := hid hb; obtain ⟨x1, y1, x2, y2, x3, y3, x4, y4, rfl, _⟩ := h1.open; have ki0 := HKI.out; clear k0 k1 k2 k3 k4 k5 k6 k7 k8 ki; have k0 := cell_blk HX2.out 0 _ rfl; have k1 := cell_blk HX2.out 1 _ rfl; have k2 := cell_blk HX2.out 2 _ rfl; have k3 := cell_blk HX2.out 3 _ rfl; have k4 := cell_blk HX2.out 4 _ rfl; have k5 := cell_blk HX2.out 5 _ rfl; have k6 := cell_blk HX2.out 6 _ rfl; have k7 := cell_blk HX2.out 7 _ rfl; have k8 := cell_blk HX2.out 8 _ rfl; have ki := kept_cell hb ki0; have q0 := cell_blk HQ2.out 0 _ rfl; have q1 := cell_blk HQ2.out 1 _ rfl; have q2 := cell_blk HQ2.out 2 _ rfl; have q3 := cell_blk HQ2.out 3 _ rfl; have q4 := cell_blk HQ2.out 4 _ rfl; have q5 := cell_blk HQ2.out 5 _ rfl; have q6 := cell_blk HQ2.out 6 _ rfl; have q7 := cell_blk HQ2.out 7 _ rfl; have q8 := cell_blk HQ2.out 8 _ rfl; have fq := frz_blk HQ2.out; clear hb hb0 hbq h1 h2 ki0)
                | fail)
              all_goals
                first
                | (have h9 := HA2.out
                   have HAL : Hid (Below W2.heap.size W2 (W2.alloc (.cells #[.int .i64 id, .int .i64 x, .int .i64 (ep + 1), .int .i64 (vr + 1), .slice x1 1 y1, .slice x2 reps.length y2, .slice x3 add.length y3, .slice x4 rem.length y4, .int .i64 mn] 24))) := (Below.refl _ _).alloc (Nat.le_refl _) _
                   have HQ9 : Hid ((W2.alloc (.cells #[.int .i64 id, .int .i64 x, .int .i64 (ep + 1), .int .i64 (vr + 1), .slice x1 1 y1, .slice x2 reps.length y2, .slice x3 add.length y3, .slice x4 rem.length y4, .int .i64 mn] 24)).cell? ⟨W2.heap.size, 1, none⟩ = some (.int .i64 x) ∧ (W2.alloc (.cells #[.int .i64 id, .int .i64 x, .int .i64 (ep + 1), .int .i64 (vr + 1), .slice x1 1 y1, .slice x2 reps.length y2, .slice x3 add.length y3, .slice x4 rem.length y4, .int .i64 mn] 24)).cell? ⟨W2.heap.size, 2, none⟩ = some (.int .i64 (ep + 1)) ∧ (W2.alloc (.cells #[.int .i64 id, .int .i64 x, .int .i64 (ep + 1), .int .i64 (vr + 1), .slice x1 1 y1, .slice x2 reps.length y2, .slice x3 add.length y3, .slice x4 rem.length y4, .int .i64 mn] 24)).cell? ⟨w.heap.size, 2, none⟩ = some (.int .i64 ep) ∧ (W2.alloc (.cells #[.int .i64 id, .int .i64 x, .int .i64 (ep + 1), .int .i64 (vr + 1), .slice x1 1 y1, .slice x2 reps.length y2, .slice x3 add.length y3, .slice x4 rem.length y4, .int .i64 mn] 24)).cell? ⟨w.heap.size, 4, none⟩ = some (.slice (some ⟨ib, io, none⟩) 1 c1) ∧ (W2.alloc (.cells #[.int .i64 id, .int .i64 x, .int .i64 (ep + 1), .int .i64 (vr + 1), .slice x1 1 y1, .slice x2 reps.length y2, .slice x3 add.length y3, .slice x4 rem.length y4, .int .i64 mn] 24)).cell? ⟨ib, io, none⟩ = some (.int .i64 x) ∧ Below w.heap.size w (W2.alloc (.cells #[.int .i64 id, .int .i64 x, .int .i64 (ep + 1), .int .i64 (vr + 1), .slice x1 1 y1, .slice x2 reps.length y2, .slice x3 add.length y3, .slice x4 rem.length y4, .int .i64 mn] 24))) := ⟨cell_blk (heap_alloc_new W2 _) 1 _ rfl, cell_blk (heap_alloc_new W2 _) 2 _ rfl, kept_cell HAL.out k2, kept_cell HAL.out k4, kept_cell HAL.out ki, (HBr.out.trans (HA2.out.mono HBr.out.size)).trans (HAL.out.mono (HBr.out.trans (HA2.out.mono HBr.out.size)).size)⟩
                   clear k0 k1 k2 k3 k4 k5 k6 k7 k8 ki h9 HAL HA2 HX2 hs2 hw5 hw6 hw7 hw8
                   generalize W2.alloc (.cells #[.int .i64 id, .int .i64 x, .int .i64 (ep + 1), .int .i64 (vr + 1), .slice x1 1 y1, .slice x2 reps.length y2, .slice x3 add.length y3, .slice x4 rem.length y4, .int .i64 mn] 24) = W3 at *
                   generalize W2.heap.size = q at *
                   go_wp2_with fail
                   go_meet
                   case rel => exact ⟨q, rfl, rfl, HQ9.out⟩)
                | (obtain ⟨hoff, hsz9⟩ := nine_off W2 wr.heap.size (.int .i64 id) (.int .i64 x) (.int .i64 (ep + 1)) (.int .i64 (vr + 1)) (.slice x1 1 y1) (.slice x2 reps.length y2) (.slice x3 add.length y3) (.slice x4 rem.length y4) (.int .i64 mn)
                   have HN9 := hid (nine_q HQ2.out rfl (.int .i64 id) (.int .i64 x) (.int .i64 (ep + 1)) (.int .i64 (vr + 1)) (.slice x1 1 y1) (.slice x2 reps.length y2) (.slice x3 add.length y3) (.slice x4 rem.length y4) (.int .i64 mn))
                   have HQ9 : Hid (((((((((((W2.setCell ⟨wr.heap.size, 0, none⟩ (.int .i64 id)).setCell ⟨wr.heap.size, 1, none⟩ (.int .i64 x)).setCell ⟨wr.heap.size, 2, none⟩ (.int .i64 (ep + 1))).setCell ⟨wr.heap.size, 3, none⟩ (.int .i64 (vr + 1))).setCell ⟨wr.heap.size, 4, none⟩ (.slice x1 1 y1)).setCell ⟨wr.heap.size, 5, none⟩ (.slice x2 reps.length y2)).setCell ⟨wr.heap.size, 6, none⟩ (.slice x3 add.length y3)).setCell ⟨wr.heap.size, 7, none⟩ (.slice x4 rem.length y4)).setCell ⟨wr.heap.size, 8, none⟩ (.int .i64 mn))).cell? ⟨wr.heap.size, 1, none⟩ = some (.int .i64 x) ∧ ((((((((((W2.setCell ⟨wr.heap.size, 0, none⟩ (.int .i64 id)).setCell ⟨wr.heap.size, 1, none⟩ (.int .i64 x)).setCell ⟨wr.heap.size, 2, none⟩ (.int .i64 (ep + 1))).setCell ⟨wr.heap.size, 3, none⟩ (.int .i64 (vr + 1))).setCell ⟨wr.heap.size, 4, none⟩ (.slice x1 1 y1)).setCell ⟨wr.heap.size, 5, none⟩ (.slice x2 reps.length y2)).setCell ⟨wr.heap.size, 6, none⟩ (.slice x3 add.length y3)).setCell ⟨wr.heap.size, 7, none⟩ (.slice x4 rem.length y4)).setCell ⟨wr.heap.size, 8, none⟩ (.int .i64 mn))).cell? ⟨wr.heap.size, 2, none⟩ = some (.int .i64 (ep + 1)) ∧ ((((((((((W2.setCell ⟨wr.heap.size, 0, none⟩ (.int .i64 id)).setCell ⟨wr.heap.size, 1, none⟩ (.int .i64 x)).setCell ⟨wr.heap.size, 2, none⟩ (.int .i64 (ep + 1))).setCell ⟨wr.heap.size, 3, none⟩ (.int .i64 (vr + 1))).setCell ⟨wr.heap.size, 4, none⟩ (.slice x1 1 y1)).setCell ⟨wr.heap.size, 5, none⟩ (.slice x2 reps.length y2)).setCell ⟨wr.heap.size, 6, none⟩ (.slice x3 add.length y3)).setCell ⟨wr.heap.size, 7, none⟩ (.slice x4 rem.length y4)).setCell ⟨wr.heap.size, 8, none⟩ (.int .i64 mn))).cell? ⟨w.heap.size, 2, none⟩ = some (.int .i64 ep) ∧ ((((((((((W2.setCell ⟨wr.heap.size, 0, none⟩ (.int .i64 id)).setCell ⟨wr.heap.size, 1, none⟩ (.int .i64 x)).setCell ⟨wr.heap.size, 2, none⟩ (.int .i64 (ep + 1))).setCell ⟨wr.heap.size, 3, none⟩ (.int .i64 (vr + 1))).setCell ⟨wr.heap.size, 4, none⟩ (.slice x1 1 y1)).setCell ⟨wr.heap.size, 5, none⟩ (.slice x2 reps.length y2)).setCell ⟨wr.heap.size, 6, none⟩ (.slice x3 add.length y3)).setCell ⟨wr.heap.size, 7, none⟩ (.slice x4 rem.length y4)).setCell ⟨wr.heap.size, 8, none⟩ (.int .i64 mn))).cell? ⟨w.heap.size, 4, none⟩ = some (.slice (some ⟨ib, io, none⟩) 1 c1) ∧ ((((((((((W2.setCell ⟨wr.heap.size, 0, none⟩ (.int .i64 id)).setCell ⟨wr.heap.size, 1, none⟩ (.int .i64 x)).setCell ⟨wr.heap.size, 2, none⟩ (.int .i64 (ep + 1))).setCell ⟨wr.heap.size, 3, none⟩ (.int .i64 (vr + 1))).setCell ⟨wr.heap.size, 4, none⟩ (.slice x1 1 y1)).setCell ⟨wr.heap.size, 5, none⟩ (.slice x2 reps.length y2)).setCell ⟨wr.heap.size, 6, none⟩ (.slice x3 add.length y3)).setCell ⟨wr.heap.size, 7, none⟩ (.slice x4 rem.length y4)).setCell ⟨wr.heap.size, 8, none⟩ (.int .i64 mn))).cell? ⟨ib, io, none⟩ = some (.int .i64 x) ∧ Below w.heap.size w ((((((((((W2.setCell ⟨wr.heap.size, 0, none⟩ (.int .i64 id)).setCell ⟨wr.heap.size, 1, none⟩ (.int .i64 x)).setCell ⟨wr.heap.size, 2, none⟩ (.int .i64 (ep + 1))).setCell ⟨wr.heap.size, 3, none⟩ (.int .i64 (vr + 1))).setCell ⟨wr.heap.size, 4, none⟩ (.slice x1 1 y1)).setCell ⟨wr.heap.size, 5, none⟩ (.slice x2 reps.length y2)).setCell ⟨wr.heap.size, 6, none⟩ (.slice x3 add.length y3)).setCell ⟨wr.heap.size, 7, none⟩ (.slice x4 rem.length y4)).setCell ⟨wr.heap.size, 8, none⟩ (.int .i64 mn)))) := ⟨cell_blk HN9.out 1 _ rfl, cell_blk HN9.out 2 _ rfl, (World.cell?_of_block (a := ⟨w.heap.size, 2, none⟩) (hoff w.heap.size hw1)).trans k2, (World.cell?_of_block (a := ⟨w.heap.size, 4, none⟩) (hoff w.heap.size hw1)).trans k4, (World.cell?_of_block (a := ⟨ib, io, none⟩) (hoff ib hw3)).trans ki, nine_below (HBr.out.trans (HB2q.out.mono HBr.out.size)) (Nat.le_of_lt hws) (.int .i64 id) (.int .i64 x) (.int .i64 (ep + 1)) (.int .i64 (vr + 1)) (.slice x1 1 y1) (.slice x2 reps.length y2) (.slice x3 add.length y3) (.slice x4 rem.length y4) (.int .i64 mn)⟩
                   clear k0 k1 k2 k3 k4 k5 k6 k7 k8 ki hoff hsz9 HN9 HQ2 HB2q HX2 q0 q1 q2 q3 q4 q5 q6 q7 q8 fq
                   generalize (((((((((W2.setCell ⟨wr.heap.size, 0, none⟩ (.int .i64 id)).setCell ⟨wr.heap.size, 1, none⟩ (.int .i64 x)).setCell ⟨wr.heap.size, 2, none⟩ (.int .i64 (ep + 1))).setCell ⟨wr.heap.size, 3, none⟩ (.int .i64 (vr + 1))).setCell ⟨wr.heap.size, 4, none⟩ (.slice x1 1 y1)).setCell ⟨wr.heap.size, 5, none⟩ (.slice x2 reps.length y2)).setCell ⟨wr.heap.size, 6, none⟩ (.slice x3 add.length y3)).setCell ⟨wr.heap.size, 7, none⟩ (.slice x4 rem.length y4)).setCell ⟨wr.heap.size, 8, none⟩ (.int .i64 mn)) = W3 at *
                   go_wp2_with fail
                   go_meet
                   case rel => exact ⟨wr.heap.size, rfl, rfl, HQ9.out⟩)
            case rest =>
              obtain ⟨q, rfl, rfl, HQ⟩ := hcut
              generalize wc = W5 at *
              obtain ⟨z1, z2, z3, z4, z5, z6⟩ := HQ.out
              have HB5 := hid z6
              have hwr : IntKind.i64.wrap (ep + 1) = ep + 1 := IntWalk.i64_in _ (by omega)
              clear z6 HQ k0 k1 k2 k3 k4 k5 k6 k7 k8 ki
              go_wp2_with fail
              go_quiet (fail)
              go_wp2_with fail
              go_ret
              exact ⟨by first | rfl | exact ret_bool (by simp), by first | exact HB5.out | exact HB5.out.drew | exact below_drewN HB5.out _⟩
      · have hlt' : ¬ (k : Int) < (ord.length : Int) := by omega
        clear hgo
        go_wp2_with fail
        go_loopg [7, 8] U.length (fun kx s7 s8 wr => ∃ (U : List Int) (so : Option Addr) (uc : Nat) (p' : Pt) (cs' : Array Value), U.length ≤ kx ∧ s7 = .slice so U.length uc ∧ s8 = .int .i64 0 ∧ FI p' U ∧ wr.heap[w.heap.size]? = some (.cells cs' 24) ∧ PartM wr (.agg cs') p' ∧ InP (fun b => b ≠ w.heap.size) (.agg cs') p' ∧ IL wr (.slice so U.length uc) U ∧ In (fun b => b ≠ w.heap.size) (.slice so U.length uc) U ∧ Below w.heap.size w wr)
        case atStart => exact ⟨U, so, uc, ⟨id, ld, ep, vr, isr, reps, add, rem, mn⟩, _, Nat.le_refl _, rfl, rfl, HFI.out, HXr.out, HPr.out, HIr.out, HUr.out, HNr.out, HBr.out⟩
        case round =>
          clear HFI HXr HPr HIr HUr HNr HBr hU7
          obtain ⟨U, so, uc, p', cs', hkx, rfl, rfl, hfi, hx, hpp, hin, hu, hun, hbr⟩ := hrel
          obtain ⟨id, ld, ep, vr, isr, reps, add, rem, mn⟩ := p'
          obtain ⟨a1, c1, a2, c2, a3, c3, a4, c4, ecs, _, _, _, _, i0, i1, i2, i3, i4⟩ := hpp.open
          cases ecs
          simp only at hx hpp hin i0 i1 i2 i3 i4
          have HFI := hid hfi
          have HXr := hid hx
          have HPr := hid hpp
          have HIr := hid hin
          have HUr := hid hu
          have HNr := hid hun
          have HBr := hid hbr
          have hU7 : U.length ≤ 7 := few_len 7 U hfi.nod hfi.ids
          clear hfi hx hpp hin hu hun hbr
          cases U with
          | cons bid V =>
            have hUl : (0 : Int) < ((bid :: V).length : Int) := by rw [List.length_cons]; omega
            obtain ⟨⟨_, _, e9, ucap, ucm, _, hat⟩, huok, hufew⟩ := HUr.out
            cases e9
            obtain ⟨ub, uo, rfl, hub, hcu⟩ := hat (by simp)
            have hcn := hcu 0 (by simp)
            simp only [List.getElem_cons_zero, Nat.add_zero] at hcn
            have hubok : I64 bid := huok bid (by simp)
            have HT := hid HUr.out.tail
            have hcp : (1 : Int) ≤ (uc : Int) := by simp at ucap; omega
            have hl1 : (1 : Int) ≤ ((bid :: V).length : Int) := by rw [List.length_cons]; omega
            have hlc : ((bid :: V).length : Int) ≤ (uc : Int) := by omega
            have HVL : Hid (V.length + 1 = (bid :: V).length) := by show _ = _; simp
            have hndc := List.nodup_cons.1 HFI.out.nod
            have HMC : Hid (∀ x, x ∈ V ↔ (x ∈ bid :: V ∧ x ≠ bid)) := fun x => ⟨fun hx => ⟨by simp [hx], fun e => hndc.1 (e ▸ hx)⟩, fun ⟨h1, h2⟩ => (List.mem_cons.1 h1).resolve_left h2⟩
            have HST := hid (fi_step HFI.out (by simp) HMC.out HVL.out hndc.2)
            have HNB : Hid (ub ≠ w.heap.size) := HNr.out (by simp) ub uo _ _ rfl
            have hvl : (bid :: V).length - 1 = V.length := by simp
            clear hcu hat hndc
            have k0 := cell_blk HXr.out 0 _ rfl
            have k1 := cell_blk HXr.out 1 _ rfl
            have k2 := cell_blk HXr.out 2 _ rfl
            have k3 := cell_blk HXr.out 3 _ rfl
            have k4 := cell_blk HXr.out 4 _ rfl
            have k5 := cell_blk HXr.out 5 _ rfl
            have k6 := cell_blk HXr.out 6 _ rfl
            have k7 := cell_blk HXr.out 7 _ rfl
            have k8 := cell_blk HXr.out 8 _ rfl
            by_cases hc1 : uc = 1
            · have HC1 := hid hc1
              have HVV := hid (HT.out.2 hc1)
              have HNV : Hid (In (fun b => b ≠ w.heap.size) (.slice (some ⟨ub, uo, none⟩) V.length 0) V) := fun _ b off n c e => by cases e; exact HNB.out
              have GF := hid (fence_any HPr.out bid hubok HVV.out)
              subst hc1
              obtain ⟨qq, hq1, hq2, hq3, hq4⟩ := HST.out
              obtain ⟨rid, rld, rep, rvr, rl1, rl2, rl3, rl4, rmn⟩ := qq
              simp only at hq3 hq4
              rw [hq1] at GF
              have HQ2 := hid hq2
              clear hq1 hq2
              go_wp2_with fail
              refine GF.out.mono ?_
              rintro e W6 ⟨v', rfl, h1, h2, hb⟩
              have HLT : Hid (w.heap.size < wr.heap.size) := lt_blk HXr.out
              have HI2 := hid (h2.mono (Y := fun b => b ≠ w.heap.size) fun b hx => by have := HLT.out; omega)
              obtain ⟨x1, y1, x2, y2, x3, y3, x4, y4, rfl, _⟩ := h1.open
              have H1 : Hid (PartM W6 (.agg #[.int .i64 rid, .int .i64 rld, .int .i64 rep, .int .i64 rvr, .slice x1 rl1.length y1, .slice x2 rl2.length y2, .slice x3 rl3.length y3, .slice x4 rl4.length y4, .int .i64 rmn]) ⟨rid, rld, rep, rvr, rl1, rl2, rl3, rl4, rmn⟩) := h1
              have HI3 : Hid (InP (fun b => b ≠ w.heap.size) (.agg #[.int .i64 rid, .int .i64 rld, .int .i64 rep, .int .i64 rvr, .slice x1 rl1.length y1, .slice x2 rl2.length y2, .slice x3 rl3.length y3, .slice x4 rl4.length y4, .int .i64 rmn]) ⟨rid, rld, rep, rvr, rl1, rl2, rl3, rl4, rmn⟩) := HI2.out
              have HX6 := hid (blk_under HXr.out hb)
              have HB6 := hid (HBr.out.trans (hb.mono HBr.out.size))
              have HU6 := hid ((HVV.out).under hb)
              clear h1 h2 hb HI2 GF k0 k1 k2 k3 k4 k5 k6 k7 k8
              have k0 := cell_blk HX6.out 0 _ rfl
              have k1 := cell_blk HX6.out 1 _ rfl
              have k2 := cell_blk HX6.out 2 _ rfl
              have k3 := cell_blk HX6.out 3 _ rfl
              have k4 := cell_blk HX6.out 4 _ rfl
              have k5 := cell_blk HX6.out 5 _ rfl
              have k6 := cell_blk HX6.out 6 _ rfl
              have k7 := cell_blk HX6.out 7 _ rfl
              have k8 := cell_blk HX6.out 8 _ rfl
              have fk := frz_blk HX6.out
              go_upto_region 24 with fail
              obtain ⟨hoff, hsz9⟩ := nine_off W6 w.heap.size (.int .i64 rid) (.int .i64 rld) (.int .i64 rep) (.int .i64 rvr) (.slice x1 rl1.length y1) (.slice x2 rl2.length y2) (.slice x3 rl3.length y3) (.slice x4 rl4.length y4) (.int .i64 rmn)
              have HX9 := hid (nine_q HX6.out rfl (.int .i64 rid) (.int .i64 rld) (.int .i64 rep) (.int .i64 rvr) (.slice x1 rl1.length y1) (.slice x2 rl2.length y2) (.slice x3 rl3.length y3) (.slice x4 rl4.length y4) (.int .i64 rmn))
              have HB9 := hid (nine_below HB6.out (Nat.le_refl _) (.int .i64 rid) (.int .i64 rld) (.int .i64 rep) (.int .i64 rvr) (.slice x1 rl1.length y1) (.slice x2 rl2.length y2) (.slice x3 rl3.length y3) (.slice x4 rl4.length y4) (.int .i64 rmn))
              have HP9 := hid (H1.out.off HI3.out hoff hsz9)
              have HU9 := hid (HU6.out.off (q := w.heap.size) HNV.out hoff hsz9)
              clear hoff hsz9 k0 k1 k2 k3 k4 k5 k6 k7 k8 fk
              generalize (((((((((W6.setCell ⟨w.heap.size, 0, none⟩ (.int .i64 rid)).setCell ⟨w.heap.size, 1, none⟩ (.int .i64 rld)).setCell ⟨w.heap.size, 2, none⟩ (.int .i64 rep)).setCell ⟨w.heap.size, 3, none⟩ (.int .i64 rvr)).setCell ⟨w.heap.size, 4, none⟩ (.slice x1 rl1.length y1)).setCell ⟨w.heap.size, 5, none⟩ (.slice x2 rl2.length y2)).setCell ⟨w.heap.size, 6, none⟩ (.slice x3 rl3.length y3)).setCell ⟨w.heap.size, 7, none⟩ (.slice x4 rl4.length y4)).setCell ⟨w.heap.size, 8, none⟩ (.int .i64 rmn)) = W9 at *
              have k0 := cell_blk HX9.out 0 _ rfl
              have k1 := cell_blk HX9.out 1 _ rfl
              have k2 := cell_blk HX9.out 2 _ rfl
              have k3 := cell_blk HX9.out 3 _ rfl
              have k4 := cell_blk HX9.out 4 _ rfl
              have k5 := cell_blk HX9.out 5 _ rfl
              have k6 := cell_blk HX9.out 6 _ rfl
              have k7 := cell_blk HX9.out 7 _ rfl
              have k8 := cell_blk HX9.out 8 _ rfl
              have HIS : Hid (IL W9 (.slice x1 rl1.length y1) rl1) := by
                obtain ⟨_, _, _, _, e9, g1, _⟩ := HP9.out
                cases e9
                exact g1
              go_wp2_with fail
              go_roundg V.length
              case measure => simp only [List.length_cons] at hkx; omega
              case rel => exact ⟨V, some ⟨ub, uo, none⟩, 0, ⟨rid, rld, rep, rvr, rl1, rl2, rl3, rl4, rmn⟩, _, Nat.le_refl _, rfl, rfl, HQ2.out, HX9.out, HP9.out, HI3.out, HU9.out, HNV.out, HB9.out⟩
            · have HVV := hid HT.out.1
              have HNV : Hid (In (fun b => b ≠ w.heap.size) (.slice (some ⟨ub, uo + 1, none⟩) V.length (uc - 1)) V) := fun _ b off n c e => by cases e; exact HNB.out
              have GF := hid (fence_any HPr.out bid hubok HVV.out)
              obtain ⟨qq, hq1, hq2, hq3, hq4⟩ := HST.out
              obtain ⟨rid, rld, rep, rvr, rl1, rl2, rl3, rl4, rmn⟩ := qq
              simp only at hq3 hq4
              rw [hq1] at GF
              have HQ2 := hid hq2
              clear hq1 hq2
              go_wp2_with fail
              refine GF.out.mono ?_
              rintro e W6 ⟨v', rfl, h1, h2, hb⟩
              have HLT : Hid (w.heap.size < wr.heap.size) := lt_blk HXr.out
              have HI2 := hid (h2.mono (Y := fun b => b ≠ w.heap.size) fun b hx => by have := HLT.out; omega)
              obtain ⟨x1, y1, x2, y2, x3, y3, x4, y4, rfl, _⟩ := h1.open
              have H1 : Hid (PartM W6 (.agg #[.int .i64 rid, .int .i64 rld, .int .i64 rep, .int .i64 rvr, .slice x1 rl1.length y1, .slice x2 rl2.length y2, .slice x3 rl3.length y3, .slice x4 rl4.length y4, .int .i64 rmn]) ⟨rid, rld, rep, rvr, rl1, rl2, rl3, rl4, rmn⟩) := h1
              have HI3 : Hid (InP (fun b => b ≠ w.heap.size) (.agg #[.int .i64 rid, .int .i64 rld, .int .i64 rep, .int .i64 rvr, .slice x1 rl1.length y1, .slice x2 rl2.length y2, .slice x3 rl3.length y3, .slice x4 rl4.length y4, .int .i64 rmn]) ⟨rid, rld, rep, rvr, rl1, rl2, rl3, rl4, rmn⟩) := HI2.out
              have HX6 := hid (blk_under HXr.out hb)
              have HB6 := hid (HBr.out.trans (hb.mono HBr.out.size))
              have HU6 := hid ((HVV.out).under hb)
              clear h1 h2 hb HI2 GF k0 k1 k2 k3 k4 k5 k6 k7 k8
              have k0 := cell_blk HX6.out 0 _ rfl
              have k1 := cell_blk HX6.out 1 _ rfl
              have k2 := cell_blk HX6.out 2 _ rfl
              have k3 := cell_blk HX6.out 3 _ rfl
              have k4 := cell_blk HX6.out 4 _ rfl
              have k5 := cell_blk HX6.out 5 _ rfl
              have k6 := cell_blk HX6.out 6 _ rfl
              have k7 := cell_blk HX6.out 7 _ rfl
              have k8 := cell_blk HX6.out 8 _ rfl
              have fk := frz_blk HX6.out
              go_upto_region 24 with fail
              obtain ⟨hoff, hsz9⟩ := nine_off W6 w.heap.size (.int .i64 rid) (.int .i64 rld) (.int .i64 rep) (.int .i64 rvr) (.slice x1 rl1.length y1) (.slice x2 rl2.length y2) (.slice x3 rl3.length y3) (.slice x4 rl4.length y4) (.int .i64 rmn)
              have HX9 := hid (nine_q HX6.out rfl (.int .i64 rid) (.int .i64 rld) (.int .i64 rep) (.int .i64 rvr) (.slice x1 rl1.length y1) (.slice x2 rl2.length y2) (.slice x3 rl3.length y3) (.slice x4 rl4.length y4) (.int .i64 rmn))
              have HB9 := hid (nine_below HB6.out (Nat.le_refl _) (.int .i64 rid) (.int .i64 rld) (.int .i64 rep) (.int .i64 rvr) (.slice x1 rl1.length y1) (.slice x2 rl2.length y2) (.slice x3 rl3.length y3) (.slice x4 rl4.length y4) (.int .i64 rmn))
              have HP9 := hid (H1.out.off HI3.out hoff hsz9)
              have HU9 := hid (HU6.out.off (q := w.heap.size) HNV.out hoff hsz9)
              clear hoff hsz9 k0 k1 k2 k3 k4 k5 k6 k7 k8 fk
              generalize (((((((((W6.setCell ⟨w.heap.size, 0, none⟩ (.int .i64 rid)).setCell ⟨w.heap.size, 1, none⟩ (.int .i64 rld)).setCell ⟨w.heap.size, 2, none⟩ (.int .i64 rep)).setCell ⟨w.heap.size, 3, none⟩ (.int .i64 rvr)).setCell ⟨w.heap.size, 4, none⟩ (.slice x1 rl1.length y1)).setCell ⟨w.heap.size, 5, none⟩ (.slice x2 rl2.length y2)).setCell ⟨w.heap.size, 6, none⟩ (.slice x3 rl3.length y3)).setCell ⟨w.heap.size, 7, none⟩ (.slice x4 rl4.length y4)).setCell ⟨w.heap.size, 8, none⟩ (.int .i64 rmn)) = W9 at *
              have k0 := cell_blk HX9.out 0 _ rfl
              have k1 := cell_blk HX9.out 1 _ rfl
              have k2 := cell_blk HX9.out 2 _ rfl
              have k3 := cell_blk HX9.out 3 _ rfl
              have k4 := cell_blk HX9.out 4 _ rfl
              have k5 := cell_blk HX9.out 5 _ rfl
              have k6 := cell_blk HX9.out 6 _ rfl
              have k7 := cell_blk HX9.out 7 _ rfl
              have k8 := cell_blk HX9.out 8 _ rfl
              have HIS : Hid (IL W9 (.slice x1 rl1.length y1) rl1) := by
                obtain ⟨_, _, _, _, e9, g1, _⟩ := HP9.out
                cases e9
                exact g1
              go_wp2_with fail
              go_roundg V.length
              case measure => simp only [List.length_cons] at hkx; omega
              case rel => exact ⟨V, some ⟨ub, uo + 1, none⟩, uc - 1, ⟨rid, rld, rep, rvr, rl1, rl2, rl3, rl4, rmn⟩, _, Nat.le_refl _, rfl, rfl, HQ2.out, HX9.out, HP9.out, HI3.out, HU9.out, HNV.out, HB9.out⟩
          | nil =>
            obtain ⟨hl0, x, hxi, hbk⟩ := fi_end HFI.out
            simp only at hl0 hxi hbk
            subst hl0 hxi
            obtain ⟨⟨_, _, e9, _, _, _, hat⟩, hiok, _⟩ := (show IL wr (.slice a1 1 c1) [x] from by
              obtain ⟨_, _, _, _, e9, g1, _⟩ := HPr.out
              cases e9
              exact g1)
            cases e9
            obtain ⟨ib, io, rfl, hib, hci⟩ := hat (by simp)
            have ki := hci 0 (by simp)
            simp only [List.getElem_cons_zero, Nat.add_zero] at ki
            have hxok : I64 x := hiok x (by simp)
            have HKI := hid ki
            clear hci hat hiok
            have hep9 := HFI.out.epoch
            have hep8 := HFI.out.right.epoch
            simp only [List.length_nil] at hep9 hep8
            obtain ⟨hep7, hep6⟩ := hep8
            have HX3 : Hid (wr.heap[w.heap.size]? = some (.cells #[.int .i64 id, .int .i64 0, .int .i64 ep, .int .i64 vr, .slice (some ⟨ib, io, none⟩) 1 c1, .slice a2 reps.length c2, .slice a3 add.length c3, .slice a4 rem.length c4, .int .i64 mn] 24)) := HXr.out
            have HP3 : Hid (PartM wr (.agg #[.int .i64 id, .int .i64 0, .int .i64 ep, .int .i64 vr, .slice (some ⟨ib, io, none⟩) 1 c1, .slice a2 reps.length c2, .slice a3 add.length c3, .slice a4 rem.length c4, .int .i64 mn]) ⟨id, 0, ep, vr, [x], reps, add, rem, mn⟩) := HPr.out
            have k0 := cell_blk HX3.out 0 _ rfl
            have k1 := cell_blk HX3.out 1 _ rfl
            have k2 := cell_blk HX3.out 2 _ rfl
            have k3 := cell_blk HX3.out 3 _ rfl
            have k4 := cell_blk HX3.out 4 _ rfl
            have k5 := cell_blk HX3.out 5 _ rfl
            have k6 := cell_blk HX3.out 6 _ rfl
            have k7 := cell_blk HX3.out 7 _ rfl
            have k8 := cell_blk HX3.out 8 _ rfl
            have G26 : Hid (∀ W, Below wr.heap.size wr W → Calls Try.prog 26 #[.agg #[.int .i64 id, .int .i64 0, .int .i64 ep, .int .i64 vr, .slice (some ⟨ib, io, none⟩) 1 c1, .slice a2 reps.length c2, .slice a3 add.length c3, .slice a4 rem.length c4, .int .i64 mn], .int .i64 x] W fun e w' => Res (fun b => W.heap.size ≤ b) W (⟨id, x, ep + 1, vr + 1, [x], reps, add, rem, mn⟩, 0) e w') := fun W hb => by
              have := back_any (HP3.out.under hb) x hxok
              rw [hbk] at this
              exact this
            have hws : w.heap.size < wr.heap.size := lt_blk HX3.out
            have hib2 : ib < wr.heap.size := hib
            have hw1 : ¬ w.heap.size = wr.heap.size := by omega
            have hw2 : ¬ wr.heap.size = w.heap.size := by omega
            have hw3 : ¬ ib = wr.heap.size := by omega
            have hw4 : ¬ wr.heap.size = ib := by omega
            have HZQ : Hid ((wr.alloc (.cells #[.int .i64 0, .int .i64 0, .int .i64 0, .int .i64 0, .slice none 0 0, .slice none 0 0, .slice none 0 0, .slice none 0 0, .int .i64 0] 24)).heap[wr.heap.size]? = some (.cells #[.int .i64 0, .int .i64 0, .int .i64 0, .int .i64 0, .slice none 0 0, .slice none 0 0, .slice none 0 0, .slice none 0 0, .int .i64 0] 24)) := heap_alloc_new _ _
            have HZB : Hid (Below wr.heap.size wr (wr.alloc (.cells #[.int .i64 0, .int .i64 0, .int .i64 0, .int .i64 0, .slice none 0 0, .slice none 0 0, .slice none 0 0, .slice none 0 0, .int .i64 0] 24))) := (Below.refl _ _).alloc (Nat.le_refl _) _
            clear hbk hib
            go_upto_region 28 with fail
            go_cut [8, 14] from 124 to 132 (fun s8 s14 W => ∃ q : Nat, s14 = .pointer (some ⟨q, 0, none⟩) ∧ s8 = .int .i64 0 ∧ Hid (W.cell? ⟨q, 1, none⟩ = some (.int .i64 x) ∧ W.cell? ⟨q, 2, none⟩ = some (.int .i64 (ep + 1)) ∧ W.cell? ⟨w.heap.size, 2, none⟩ = some (.int .i64 ep) ∧ W.cell? ⟨w.heap.size, 4, none⟩ = some (.slice (some ⟨ib, io, none⟩) 1 c1) ∧ W.cell? ⟨ib, io, none⟩ = some (.int .i64 x) ∧ Below w.heap.size w W))
            case first =>
              go_region_held3 (fun w' => w'.cell? ⟨w.heap.size, 0, none⟩ = some (.int .i64 id) ∧ w'.cell? ⟨w.heap.size, 1, none⟩ = some (.int .i64 0) ∧ w'.cell? ⟨w.heap.size, 2, none⟩ = some (.int .i64 ep) ∧ w'.cell? ⟨w.heap.size, 3, none⟩ = some (.int .i64 vr) ∧ w'.cell? ⟨w.heap.size, 4, none⟩ = some (.slice (some ⟨ib, io, none⟩) 1 c1) ∧ w'.cell? ⟨w.heap.size, 5, none⟩ = some (.slice a2 reps.length c2) ∧ w'.cell? ⟨w.heap.size, 6, none⟩ = some (.slice a3 add.length c3) ∧ w'.cell? ⟨w.heap.size, 7, none⟩ = some (.slice a4 rem.length c4) ∧ w'.cell? ⟨w.heap.size, 8, none⟩ = some (.int .i64 mn) ∧ w'.cell? ⟨ib, io, none⟩ = some (.int .i64 x)) (go_keep)
                (first
                | (go_at_call 26; refine (G26.out _ (by first | exact Below.refl _ _ | exact (Below.refl _ _).drew)).mono ?_; rintro e W2 ⟨v', rfl, h1, h2, hb0⟩; have hb : Below wr.heap.size wr W2 := (by first | exact hb0 | exact (Below.refl _ _).drew.trans hb0); have HX2 := hid (blk_under HX3.out hb); have HA2 := hid hb; obtain ⟨x1, y1, x2, y2, x3, y3, x4, y4, rfl, _⟩ := h1.open; have ki0 := HKI.out; clear k0 k1 k2 k3 k4 k5 k6 k7 k8 ki; have k0 := cell_blk HX2.out 0 _ rfl; have k1 := cell_blk HX2.out 1 _ rfl; have k2 := cell_blk HX2.out 2 _ rfl; have k3 := cell_blk HX2.out 3 _ rfl; have k4 := cell_blk HX2.out 4 _ rfl; have k5 := cell_blk HX2.out 5 _ rfl; have k6 := cell_blk HX2.out 6 _ rfl; have k7 := cell_blk HX2.out 7 _ rfl; have k8 := cell_blk HX2.out 8 _ rfl; have ki := kept_cell hb ki0; clear hb hb0 h1 h2 ki0; have hs2 := HA2.out.size; have hw5 : ¬ w.heap.size = W2.heap.size := (by omega); have hw6 : ¬ W2.heap.size = w.heap.size := (by omega); have hw7 : ¬ ib = W2.heap.size := (by omega); have hw8 : ¬ W2.heap.size = ib := (by omega))
                | (go_at_call 26; refine (G26.out _ (by first | exact HZB.out | exact HZB.out.drew | exact (Below.refl _ _).drew.alloc (Nat.le_refl _) _)).mono ?_; rintro e W2 ⟨v', rfl, h1, h2, hb0⟩; have hbq : Below (wr.alloc (.cells #[.int .i64 0, .int .i64 0, .int .i64 0, .int .i64 0, .slice none 0 0, .slice none 0 0, .slice none 0 0, .slice none 0 0, .int .i64 0] 24)).heap.size (wr.alloc (.cells #[.int .i64 0, .int .i64 0, .int .i64 0, .int .i64 0, .slice none 0 0, .slice none 0 0, .slice none 0 0, .slice none 0 0, .int .i64 0] 24)) W2 := (by first | exact hb0 | exact (Below.refl _ _).drew.trans hb0); have hb := HZB.out.trans (hbq.mono HZB.out.size); have HX2 := hid (blk_under HX3.out hb); have HQ2 := hid (blk_under HZQ.out hbq); have HB2q := hid hb; obtain ⟨x1, y1, x2, y2, x3, y3, x4, y4, rfl, _⟩ := h1.open; have ki0 := HKI.out; clear k0 k1 k2 k3 k4 k5 k6 k7 k8 ki; have k0 := cell_blk HX2.out 0 _ rfl; have k1 := cell_blk HX2.out 1 _ rfl; have k2 := cell_blk HX2.out 2 _ rfl; have k3 := cell_blk HX2.out 3 _ rfl; have k4 := cell_blk HX2.out 4 _ rfl; have k5 := cell_blk HX2.out 5 _ rfl; have k6 := cell_blk HX2.out 6 _ rfl; have k7 := cell_blk HX2.out 7 _ rfl; have k8 := cell_blk HX2.out 8 _ rfl; have ki := kept_cell hb ki0; have q0 := cell_blk HQ2.out 0 _ rfl; have q1 := cell_blk HQ2.out 1 _ rfl; have q2 := cell_blk HQ2.out 2 _ rfl; have q3 := cell_blk HQ2.out 3 _ rfl; have q4 := cell_blk HQ2.out 4 _ rfl; have q5 := cell_blk HQ2.out 5 _ rfl; have q6 := cell_blk HQ2.out 6 _ rfl; have q7 := cell_blk HQ2.out 7 _ rfl; have q8 := cell_blk HQ2.out 8 _ rfl; have fq := frz_blk HQ2.out; clear hb hb0 hbq h1 h2 ki0)
                | fail)
              all_goals
                first
                | (have h9 := HA2.out
                   have HAL : Hid (Below W2.heap.size W2 (W2.alloc (.cells #[.int .i64 id, .int .i64 x, .int .i64 (ep + 1), .int .i64 (vr + 1), .slice x1 1 y1, .slice x2 reps.length y2, .slice x3 add.length y3, .slice x4 rem.length y4, .int .i64 mn] 24))) := (Below.refl _ _).alloc (Nat.le_refl _) _
                   have HQ9 : Hid ((W2.alloc (.cells #[.int .i64 id, .int .i64 x, .int .i64 (ep + 1), .int .i64 (vr + 1), .slice x1 1 y1, .slice x2 reps.length y2, .slice x3 add.length y3, .slice x4 rem.length y4, .int .i64 mn] 24)).cell? ⟨W2.heap.size, 1, none⟩ = some (.int .i64 x) ∧ (W2.alloc (.cells #[.int .i64 id, .int .i64 x, .int .i64 (ep + 1), .int .i64 (vr + 1), .slice x1 1 y1, .slice x2 reps.length y2, .slice x3 add.length y3, .slice x4 rem.length y4, .int .i64 mn] 24)).cell? ⟨W2.heap.size, 2, none⟩ = some (.int .i64 (ep + 1)) ∧ (W2.alloc (.cells #[.int .i64 id, .int .i64 x, .int .i64 (ep + 1), .int .i64 (vr + 1), .slice x1 1 y1, .slice x2 reps.length y2, .slice x3 add.length y3, .slice x4 rem.length y4, .int .i64 mn] 24)).cell? ⟨w.heap.size, 2, none⟩ = some (.int .i64 ep) ∧ (W2.alloc (.cells #[.int .i64 id, .int .i64 x, .int .i64 (ep + 1), .int .i64 (vr + 1), .slice x1 1 y1, .slice x2 reps.length y2, .slice x3 add.length y3, .slice x4 rem.length y4, .int .i64 mn] 24)).cell? ⟨w.heap.size, 4, none⟩ = some (.slice (some ⟨ib, io, none⟩) 1 c1) ∧ (W2.alloc (.cells #[.int .i64 id, .int .i64 x, .int .i64 (ep + 1), .int .i64 (vr + 1), .slice x1 1 y1, .slice x2 reps.length y2, .slice x3 add.length y3, .slice x4 rem.length y4, .int .i64 mn] 24)).cell? ⟨ib, io, none⟩ = some (.int .i64 x) ∧ Below w.heap.size w (W2.alloc (.cells #[.int .i64 id, .int .i64 x, .int .i64 (ep + 1), .int .i64 (vr + 1), .slice x1 1 y1, .slice x2 reps.length y2, .slice x3 add.length y3, .slice x4 rem.length y4, .int .i64 mn] 24))) := ⟨cell_blk (heap_alloc_new W2 _) 1 _ rfl, cell_blk (heap_alloc_new W2 _) 2 _ rfl, kept_cell HAL.out k2, kept_cell HAL.out k4, kept_cell HAL.out ki, (HBr.out.trans (HA2.out.mono HBr.out.size)).trans (HAL.out.mono (HBr.out.trans (HA2.out.mono HBr.out.size)).size)⟩
                   clear k0 k1 k2 k3 k4 k5 k6 k7 k8 ki h9 HAL HA2 HX2 hs2 hw5 hw6 hw7 hw8
                   generalize W2.alloc (.cells #[.int .i64 id, .int .i64 x, .int .i64 (ep + 1), .int .i64 (vr + 1), .slice x1 1 y1, .slice x2 reps.length y2, .slice x3 add.length y3, .slice x4 rem.length y4, .int .i64 mn] 24) = W3 at *
                   generalize W2.heap.size = q at *
                   go_wp2_with fail
                   go_meet
                   case rel => exact ⟨q, rfl, rfl, HQ9.out⟩)
                | (obtain ⟨hoff, hsz9⟩ := nine_off W2 wr.heap.size (.int .i64 id) (.int .i64 x) (.int .i64 (ep + 1)) (.int .i64 (vr + 1)) (.slice x1 1 y1) (.slice x2 reps.length y2) (.slice x3 add.length y3) (.slice x4 rem.length y4) (.int .i64 mn)
                   have HN9 := hid (nine_q HQ2.out rfl (.int .i64 id) (.int .i64 x) (.int .i64 (ep + 1)) (.int .i64 (vr + 1)) (.slice x1 1 y1) (.slice x2 reps.length y2) (.slice x3 add.length y3) (.slice x4 rem.length y4) (.int .i64 mn))
                   have HQ9 : Hid (((((((((((W2.setCell ⟨wr.heap.size, 0, none⟩ (.int .i64 id)).setCell ⟨wr.heap.size, 1, none⟩ (.int .i64 x)).setCell ⟨wr.heap.size, 2, none⟩ (.int .i64 (ep + 1))).setCell ⟨wr.heap.size, 3, none⟩ (.int .i64 (vr + 1))).setCell ⟨wr.heap.size, 4, none⟩ (.slice x1 1 y1)).setCell ⟨wr.heap.size, 5, none⟩ (.slice x2 reps.length y2)).setCell ⟨wr.heap.size, 6, none⟩ (.slice x3 add.length y3)).setCell ⟨wr.heap.size, 7, none⟩ (.slice x4 rem.length y4)).setCell ⟨wr.heap.size, 8, none⟩ (.int .i64 mn))).cell? ⟨wr.heap.size, 1, none⟩ = some (.int .i64 x) ∧ ((((((((((W2.setCell ⟨wr.heap.size, 0, none⟩ (.int .i64 id)).setCell ⟨wr.heap.size, 1, none⟩ (.int .i64 x)).setCell ⟨wr.heap.size, 2, none⟩ (.int .i64 (ep + 1))).setCell ⟨wr.heap.size, 3, none⟩ (.int .i64 (vr + 1))).setCell ⟨wr.heap.size, 4, none⟩ (.slice x1 1 y1)).setCell ⟨wr.heap.size, 5, none⟩ (.slice x2 reps.length y2)).setCell ⟨wr.heap.size, 6, none⟩ (.slice x3 add.length y3)).setCell ⟨wr.heap.size, 7, none⟩ (.slice x4 rem.length y4)).setCell ⟨wr.heap.size, 8, none⟩ (.int .i64 mn))).cell? ⟨wr.heap.size, 2, none⟩ = some (.int .i64 (ep + 1)) ∧ ((((((((((W2.setCell ⟨wr.heap.size, 0, none⟩ (.int .i64 id)).setCell ⟨wr.heap.size, 1, none⟩ (.int .i64 x)).setCell ⟨wr.heap.size, 2, none⟩ (.int .i64 (ep + 1))).setCell ⟨wr.heap.size, 3, none⟩ (.int .i64 (vr + 1))).setCell ⟨wr.heap.size, 4, none⟩ (.slice x1 1 y1)).setCell ⟨wr.heap.size, 5, none⟩ (.slice x2 reps.length y2)).setCell ⟨wr.heap.size, 6, none⟩ (.slice x3 add.length y3)).setCell ⟨wr.heap.size, 7, none⟩ (.slice x4 rem.length y4)).setCell ⟨wr.heap.size, 8, none⟩ (.int .i64 mn))).cell? ⟨w.heap.size, 2, none⟩ = some (.int .i64 ep) ∧ ((((((((((W2.setCell ⟨wr.heap.size, 0, none⟩ (.int .i64 id)).setCell ⟨wr.heap.size, 1, none⟩ (.int .i64 x)).setCell ⟨wr.heap.size, 2, none⟩ (.int .i64 (ep + 1))).setCell ⟨wr.heap.size, 3, none⟩ (.int .i64 (vr + 1))).setCell ⟨wr.heap.size, 4, none⟩ (.slice x1 1 y1)).setCell ⟨wr.heap.size, 5, none⟩ (.slice x2 reps.length y2)).setCell ⟨wr.heap.size, 6, none⟩ (.slice x3 add.length y3)).setCell ⟨wr.heap.size, 7, none⟩ (.slice x4 rem.length y4)).setCell ⟨wr.heap.size, 8, none⟩ (.int .i64 mn))).cell? ⟨w.heap.size, 4, none⟩ = some (.slice (some ⟨ib, io, none⟩) 1 c1) ∧ ((((((((((W2.setCell ⟨wr.heap.size, 0, none⟩ (.int .i64 id)).setCell ⟨wr.heap.size, 1, none⟩ (.int .i64 x)).setCell ⟨wr.heap.size, 2, none⟩ (.int .i64 (ep + 1))).setCell ⟨wr.heap.size, 3, none⟩ (.int .i64 (vr + 1))).setCell ⟨wr.heap.size, 4, none⟩ (.slice x1 1 y1)).setCell ⟨wr.heap.size, 5, none⟩ (.slice x2 reps.length y2)).setCell ⟨wr.heap.size, 6, none⟩ (.slice x3 add.length y3)).setCell ⟨wr.heap.size, 7, none⟩ (.slice x4 rem.length y4)).setCell ⟨wr.heap.size, 8, none⟩ (.int .i64 mn))).cell? ⟨ib, io, none⟩ = some (.int .i64 x) ∧ Below w.heap.size w ((((((((((W2.setCell ⟨wr.heap.size, 0, none⟩ (.int .i64 id)).setCell ⟨wr.heap.size, 1, none⟩ (.int .i64 x)).setCell ⟨wr.heap.size, 2, none⟩ (.int .i64 (ep + 1))).setCell ⟨wr.heap.size, 3, none⟩ (.int .i64 (vr + 1))).setCell ⟨wr.heap.size, 4, none⟩ (.slice x1 1 y1)).setCell ⟨wr.heap.size, 5, none⟩ (.slice x2 reps.length y2)).setCell ⟨wr.heap.size, 6, none⟩ (.slice x3 add.length y3)).setCell ⟨wr.heap.size, 7, none⟩ (.slice x4 rem.length y4)).setCell ⟨wr.heap.size, 8, none⟩ (.int .i64 mn)))) := ⟨cell_blk HN9.out 1 _ rfl, cell_blk HN9.out 2 _ rfl, (World.cell?_of_block (a := ⟨w.heap.size, 2, none⟩) (hoff w.heap.size hw1)).trans k2, (World.cell?_of_block (a := ⟨w.heap.size, 4, none⟩) (hoff w.heap.size hw1)).trans k4, (World.cell?_of_block (a := ⟨ib, io, none⟩) (hoff ib hw3)).trans ki, nine_below (HBr.out.trans (HB2q.out.mono HBr.out.size)) (Nat.le_of_lt hws) (.int .i64 id) (.int .i64 x) (.int .i64 (ep + 1)) (.int .i64 (vr + 1)) (.slice x1 1 y1) (.slice x2 reps.length y2) (.slice x3 add.length y3) (.slice x4 rem.length y4) (.int .i64 mn)⟩
                   clear k0 k1 k2 k3 k4 k5 k6 k7 k8 ki hoff hsz9 HN9 HQ2 HB2q HX2 q0 q1 q2 q3 q4 q5 q6 q7 q8 fq
                   generalize (((((((((W2.setCell ⟨wr.heap.size, 0, none⟩ (.int .i64 id)).setCell ⟨wr.heap.size, 1, none⟩ (.int .i64 x)).setCell ⟨wr.heap.size, 2, none⟩ (.int .i64 (ep + 1))).setCell ⟨wr.heap.size, 3, none⟩ (.int .i64 (vr + 1))).setCell ⟨wr.heap.size, 4, none⟩ (.slice x1 1 y1)).setCell ⟨wr.heap.size, 5, none⟩ (.slice x2 reps.length y2)).setCell ⟨wr.heap.size, 6, none⟩ (.slice x3 add.length y3)).setCell ⟨wr.heap.size, 7, none⟩ (.slice x4 rem.length y4)).setCell ⟨wr.heap.size, 8, none⟩ (.int .i64 mn)) = W3 at *
                   go_wp2_with fail
                   go_meet
                   case rel => exact ⟨wr.heap.size, rfl, rfl, HQ9.out⟩)
            case rest =>
              obtain ⟨q, rfl, rfl, HQ⟩ := hcut
              generalize wc = W5 at *
              obtain ⟨z1, z2, z3, z4, z5, z6⟩ := HQ.out
              have HB5 := hid z6
              have hwr : IntKind.i64.wrap (ep + 1) = ep + 1 := IntWalk.i64_in _ (by omega)
              clear z6 HQ k0 k1 k2 k3 k4 k5 k6 k7 k8 ki
              go_wp2_with fail
              go_quiet (fail)
              go_wp2_with fail
              go_ret
              exact ⟨by first | rfl | exact ret_bool (by simp), by first | exact HB5.out | exact HB5.out.drew | exact below_drewN HB5.out _⟩
end Go.Proofs.Ytfahepeemodcbaa
