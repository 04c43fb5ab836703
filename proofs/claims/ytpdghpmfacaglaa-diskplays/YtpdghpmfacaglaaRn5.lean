/- What the document's disk does: Replace, Rename. -/
import Derived.Test.YtpdghpmfacaglaaRn4
namespace Go.Proofs.Ytpdghpmfacaglaa
open Go.RowKit Go.Maps Go.Sort
set_option maxRecDepth 100000
set_option linter.unusedSimpArgs false
set_option linter.unusedVariables false

theorem aput_adel (l : List AF) (y : AF) : aput (adel l y.name) y = aput l y := by
  unfold aput
  rw [adel_all (adel_ne l y.name)]
/-- put behind a drop of the same name. -/
theorem rput_over {w : World} {T : Nat → Prop} {r size : Nat} {v : Value} {l : List AF} {x : AF} (h : RefM w T r size v (adel l x.name)) (hl : l.length ≤ 256) (hs : Srt l) :
    Calls Try.prog 50 #[.pointer (some ⟨r, 0, none⟩), .agg #[.string (strOf x.name), .string (strOf x.bs), .int .i64 (x.safe : Int)]] w fun e w' => e = .returned (.tuple #[]) ∧ RAfter T w w' r size (aput l x) := by
  rw [← aput_adel]
  exact rput_new h (by have := adel_len l x.name; omega) (srt_adel _ hs) x (adel_ne l x.name)

set_option maxHeartbeats 3200000 in
theorem rreplace_any {w : World} {T : Nat → Prop} {r size : Nat} {v : Value} {l : List AF} (h : RefM w T r size v l) (hk : LOk size l) (n b : ByteArray) (hn : n.size ≤ maxLen) (hb : b.size ≤ maxLen) :
    Calls Try.prog 32 #[.pointer (some ⟨r, 0, none⟩), .string n, .string b] w fun e w' => e = .returned (.int .i64 (repE size l n b : Int)) ∧ RAfter T w w' r size (repL size l n b) := by
  have hl := hk.len
  have HM := hid (rmade_any h hk.len n hn)
  have HA := hid (at_any h (by omega) n)
  have HF := hid (rfree_any h (by omega) hk.total hk.big)
  have HR := hid (RAfter.same h (Below.refl _ _))
  unfold maxLen at hb
  unfold repE repL
  by_cases hE : admE l n = 0
  case neg =>
    rw [if_neg hE, if_neg (fun h => hE h.1)]
    generalize admE l n = E at *
    have hne : (((E : Nat) : Int) != 0) = true := by simp; omega
    clear h hE HA HF
    go_enter Try.func32, Try.ntmps32
    go_wp2_with fail
    refine HM.out.mono ?_
    rintro e w1 ⟨rfl, h⟩
    have h' := h.symm
    subst h'
    go_wp2_with fail
    go_ret
    exact ⟨rfl, HR.out⟩
  simp only [hE, if_true, true_and]
  rw [hE] at HM
  have htot := hk.total
  have hbig := hk.big
  cases hi : idx l n.data.toList with
  | some i =>
    rw [idxI_yes hi] at HA
    obtain ⟨x, hx, hxn, hlk, hil⟩ := idx_yes hi
    rw [(look_bytes hlk).1]
    have hxt := total_mem (mem_at hx)
    obtain ⟨g, cap, rfl, hcap, hcm⟩ := h.place hx
    have c1 := h.c1
    have p1 := (h.at_ i x hx).2.1
    have hsz := strOf_sz x.bs
    have hi0 : (0 : Int) ≤ (i : Int) := by omega
    have hil' : (i : Int) < (l.length : Int) := by omega
    have HD := hid (rdrop_any h (by omega) hk.srt hx)
    rw [hxn] at HD
    have HO := hid (fun (w1 : World) (T1 : Nat → Prop) (v1 : Value) (h1 : RefM w1 T1 r size v1 (adel l n.data.toList)) => rput_over (x := ⟨n.data.toList, b.data.toList, b.size⟩) h1 hl hk.srt)
    simp only [strOf_of] at HO
    have hfr : size - totalA l ≤ 16777216 := by omega
    have hxl : x.bs.length ≤ 16777216 := by omega
    by_cases hf : b.size ≤ size - totalA l + x.bs.length
    · rw [if_pos hf, if_pos hf]
      have hf' : ¬ ((size - totalA l : Nat) : Int) + (x.bs.length : Int) < (b.size : Int) := by omega
      generalize x.bs.length = xl at *
      generalize size - totalA l = fr at *
      generalize strOf x.bs = S0 at *
      clear h hlk hi hx hxn hE hk hf
      go_enter Try.func32, Try.ntmps32
      go_wp2_with fail
      refine HM.out.mono ?_
      rintro e w1 ⟨rfl, h⟩
      have h' := h.symm
      subst h'
      clear h
      go_wp2_with fail
      refine HA.out.mono ?_
      rintro e w2 ⟨rfl, h⟩
      have h' := h.symm
      subst h'
      clear h
      go_wp2_with fail
      refine HF.out.mono ?_
      rintro e w3 ⟨rfl, h⟩
      have h' := h.symm
      subst h'
      clear h
      go_wp2_with fail
      refine HD.out.mono ?_
      rintro e w4 ⟨rfl, hr⟩
      obtain ⟨T1, v1, hr1, a1, a2, a3⟩ := hr
      have HC := hid (HO.out w4 T1 v1 hr1)
      have HB := hid (And.intro a1 (And.intro a2 a3))
      clear hr1 a1 a2 a3
      go_wp2_with fail
      refine HC.out.mono ?_
      rintro e w5 ⟨rfl, hr⟩
      have HZ := hid (hr.trans T1 HB.out.1 HB.out.2.1 HB.out.2.2)
      clear hr
      go_wp2_with fail
      go_ret
      exact ⟨rfl, HZ.out⟩
    · rw [if_neg hf, if_neg hf]
      have hf' : ((size - totalA l : Nat) : Int) + (x.bs.length : Int) < (b.size : Int) := by omega
      generalize x.bs.length = xl at *
      generalize size - totalA l = fr at *
      generalize strOf x.bs = S0 at *
      clear h hlk hi hx hxn hE hk hf HD HO
      go_enter Try.func32, Try.ntmps32
      go_wp2_with fail
      refine HM.out.mono ?_
      rintro e w1 ⟨rfl, h⟩
      have h' := h.symm
      subst h'
      clear h
      go_wp2_with fail
      refine HA.out.mono ?_
      rintro e w2 ⟨rfl, h⟩
      have h' := h.symm
      subst h'
      clear h
      go_wp2_with fail
      refine HF.out.mono ?_
      rintro e w3 ⟨rfl, h⟩
      have h' := h.symm
      subst h'
      clear h
      go_wp2_with fail
      go_ret
      exact ⟨rfl, HR.out⟩
  | none =>
    rw [idxI_no hi] at HA
    obtain ⟨hno, hnm⟩ := idx_no hi
    rw [(look_none hno).1]
    simp only [List.length_nil, Nat.add_zero]
    have HO := hid (rput_new h (by omega) hk.srt ⟨n.data.toList, b.data.toList, b.size⟩ hnm)
    simp only [strOf_of] at HO
    by_cases hf : b.size ≤ size - totalA l
    · rw [if_pos hf, if_pos hf]
      have hf' : ¬ ((size - totalA l : Nat) : Int) < (b.size : Int) := by omega
      generalize size - totalA l = fr at *
      clear h hno hnm hi hE hk hf
      go_enter Try.func32, Try.ntmps32
      go_wp2_with fail
      refine HM.out.mono ?_
      rintro e w1 ⟨rfl, h⟩
      have h' := h.symm
      subst h'
      clear h
      go_wp2_with fail
      refine HA.out.mono ?_
      rintro e w2 ⟨rfl, h⟩
      have h' := h.symm
      subst h'
      clear h
      go_wp2_with fail
      refine HF.out.mono ?_
      rintro e w3 ⟨rfl, h⟩
      have h' := h.symm
      subst h'
      clear h
      go_wp2_with fail
      refine HO.out.mono ?_
      rintro e w5 ⟨rfl, hr⟩
      have HZ := hid hr
      clear hr
      go_wp2_with fail
      go_ret
      exact ⟨rfl, HZ.out⟩
    · rw [if_neg hf, if_neg hf]
      have hf' : ((size - totalA l : Nat) : Int) < (b.size : Int) := by omega
      generalize size - totalA l = fr at *
      clear h hno hnm hi hE hk hf HO
      go_enter Try.func32, Try.ntmps32
      go_wp2_with fail
      refine HM.out.mono ?_
      rintro e w1 ⟨rfl, h⟩
      have h' := h.symm
      subst h'
      clear h
      go_wp2_with fail
      refine HA.out.mono ?_
      rintro e w2 ⟨rfl, h⟩
      have h' := h.symm
      subst h'
      clear h
      go_wp2_with fail
      refine HF.out.mono ?_
      rintro e w3 ⟨rfl, h⟩
      have h' := h.symm
      subst h'
      clear h
      go_wp2_with fail
      go_ret
      exact ⟨rfl, HR.out⟩

theorem rput_box {V : World} {T2 : Nat → Prop} {r size : Nat} {v2 : Value} {l1 : List AF} {y : AF} (h : RefM V T2 r size v2 (adel l1 y.name)) (hl : l1.length ≤ 256) (hs : Srt l1) (q : Nat) (hq : ¬ T2 q) (u : Value) :
    Calls Try.prog 50 #[.pointer (some ⟨r, 0, none⟩), .agg #[.string (strOf y.name), .string (strOf y.bs), .int .i64 (y.safe : Int)]] (V.setCell ⟨q, 0, none⟩ u) fun e w' => e = .returned (.tuple #[]) ∧ RAfter T2 (V.setCell ⟨q, 0, none⟩ u) w' r size (aput l1 y) :=
  rput_over (h.kept (fun k hk => Below.heap_setCell V ⟨q, 0, none⟩ u k (fun e => hq (by have e' : k = q := e; rw [← e']; exact hk))) (by simp [World.setCell])) hl hs
theorem RAfter.wrap {T T2 : Nat → Prop} {w V w5 : World} {r size q : Nat} {u : Value} {l' : List AF} (hq : w.heap.size ≤ q) (hk : Keeps T w V) (h1 : ∀ k, T2 k → T k ∨ w.heap.size ≤ k) (h2 : ∀ k, T k → T2 k) (h : RAfter T2 (V.setCell ⟨q, 0, none⟩ u) w5 r size l') : RAfter T w w5 r size l' :=
  RAfter.trans (w1 := V.setCell ⟨q, 0, none⟩ u) T2 h1 h2 ⟨hk.os, hk.tape, hk.output, by simp [World.setCell]; exact hk.size, fun k hkk hT => (Below.heap_setCell V ⟨q, 0, none⟩ u k (by show _ ≠ q; omega)).trans (hk.block k hkk hT)⟩ h
/-- Behind the drop, or behind both: what put asks, and what it leaves. -/
structure RenMid (w V : World) (T T2 : Nat → Prop) (r size : Nat) (v2 : Value) (l2 : List AF) (O : Obj) : Prop where
  ref : RefM V T2 r size v2 l2
  new : ∀ k, T2 k → T k ∨ w.heap.size < k
  old : ∀ k, T k → T2 k
  keep : Keeps T w V
  box : V.heap[w.heap.size]? = some O
theorem RenMid.one {w w3 : World} {T : Nat → Prop} {r size : Nat} {l1 : List AF} {O : Obj} (hT : ∀ k, T k → k < w.heap.size) (h : RAfter T (w.alloc O) w3 r size l1) : ∃ T1 v1, RenMid w w3 T T1 r size v1 l1 O := by
  obtain ⟨T1, v1, hr, a1, a2, a3⟩ := h
  refine ⟨T1, v1, hr, fun k hk => ?_, a2, (Keeps.of_below ((Below.refl w.heap.size w).alloc (Nat.le_refl _) O)).trans a3 (fun x hx => .inl hx), ?_⟩
  · rcases a1 k hk with h | h
    · exact .inl h
    · simp at h; exact .inr (by omega)
  · rw [a3.block w.heap.size (by simp) (fun h => by have := hT _ h; omega)]
    exact heap_alloc_new w O
theorem RenMid.two {w w3 w4 : World} {T T1 : Nat → Prop} {r size : Nat} {v1 : Value} {l1 l2 : List AF} {O : Obj} (hT : ∀ k, T k → k < w.heap.size) (m : RenMid w w3 T T1 r size v1 l1 O) (h : RAfter T1 w3 w4 r size l2) : ∃ T2 v2, RenMid w w4 T T2 r size v2 l2 O := by
  obtain ⟨T2, v2, hr, a1, a2, a3⟩ := h
  have hs := m.keep.size
  have hlt : w.heap.size < w3.heap.size := (Array.getElem?_eq_some_iff.1 m.box).1
  refine ⟨T2, v2, hr, fun k hk => ?_, fun k hk => a2 k (m.old k hk), m.keep.trans a3 (fun x hx => (m.new x hx).imp id (fun h => by omega)), ?_⟩
  · rcases a1 k hk with h | h
    · exact m.new k h
    · exact .inr (by omega)
  · rw [a3.block w.heap.size hlt (fun h => by rcases m.new _ h with h | h; (have := hT _ h; omega); omega)]
    exact m.box
theorem RenMid.off {w V : World} {T T2 : Nat → Prop} {r size : Nat} {v2 : Value} {l2 : List AF} {O : Obj} (hT : ∀ k, T k → k < w.heap.size) (m : RenMid w V T T2 r size v2 l2 O) : ¬ T2 w.heap.size := fun h => by
  rcases m.new _ h with h | h
  · have := hT _ h; omega
  · omega

set_option maxHeartbeats 3200000 in
theorem rrename_any {w : World} {T : Nat → Prop} {r size : Nat} {v : Value} {l : List AF} (h : RefM w T r size v l) (hk : LOk size l) (n t : ByteArray) (hn : n.size ≤ maxLen) (ht : t.size ≤ maxLen) :
    Calls Try.prog 34 #[.pointer (some ⟨r, 0, none⟩), .string n, .string t] w fun e w' => e = .returned (.int .i64 (renE l n t : Int)) ∧ RAfter T w w' r size (renL l n t) := by
  have hl := hk.len
  have HN := hid (rname_any t w ht)
  have HA := hid (at_any h (by omega) n)
  have HR := hid (RAfter.same h (Below.refl _ _))
  unfold renE renL synE
  cases hb : nameB t with
  | false =>
    rw [hb] at HN
    simp only [Bool.false_eq_true, if_false, false_and]
    clear h hb
    go_enter Try.func34, Try.ntmps34
    go_wp2_with fail
    refine HN.out.mono ?_
    rintro e w1 ⟨rfl, h⟩
    have h' := h.symm
    subst h'
    clear h
    go_wp2_with fail
    refine HA.out.mono ?_
    rintro e w2 ⟨rfl, h⟩
    have h' := h.symm
    subst h'
    clear h
    go_wp2_with fail
    go_ret
    exact ⟨rfl, HR.out⟩
  | true =>
    rw [hb] at HN
    cases hi : idx l n.data.toList with
    | none =>
      rw [idxI_no hi] at HA
      have hno := (idx_no hi).1
      simp only [hno, Option.isSome_none, Bool.false_eq_true, if_false, and_false, if_true]
      clear h hb hi hno
      go_enter Try.func34, Try.ntmps34
      go_wp2_with fail
      refine HN.out.mono ?_
      rintro e w1 ⟨rfl, h⟩
      have h' := h.symm
      subst h'
      clear h
      go_wp2_with fail
      refine HA.out.mono ?_
      rintro e w2 ⟨rfl, h⟩
      have h' := h.symm
      subst h'
      clear h
      go_wp2_with fail
      go_ret
      exact ⟨rfl, HR.out⟩
    | some i =>
      rw [idxI_yes hi] at HA
      obtain ⟨x, hx, hxn, hlk, hil⟩ := idx_yes hi
      simp only [hlk, Option.isSome_some, if_true, true_and]
      rw [(look_bytes hlk).1, (look_bytes hlk).2]
      have hi0 : ¬ (i : Int) < 0 := by omega
      by_cases hnt : n.data.toList = t.data.toList
      · have hq : (n.toList == t.toList) = true := by rw [Lib.toList_data, Lib.toList_data]; simpa using hnt
        have e1 : aput (adel l n.data.toList) ⟨t.data.toList, x.bs, x.safe⟩ = l := by
          have := aput_adel l ⟨t.data.toList, x.bs, x.safe⟩
          simp only at this
          rw [hnt, this]
          have e2 : (⟨t.data.toList, x.bs, x.safe⟩ : AF) = x := by rw [← hnt, ← hxn]
          rw [e2, aput_at hk.srt hx rfl]
          have hxl := (List.getElem?_eq_some_iff.1 hx).2
          rw [← hxl]
          simp
        rw [e1]
        clear h hb hi hlk hx hxn e1 hnt
        go_enter Try.func34, Try.ntmps34
        go_wp2_with fail
        refine HN.out.mono ?_
        rintro e w1 ⟨rfl, h⟩
        have h' := h.symm
        subst h'
        clear h
        go_wp2_with fail
        refine HA.out.mono ?_
        rintro e w2 ⟨rfl, h⟩
        have h' := h.symm
        subst h'
        clear h
        go_wp2_with fail
        go_ret
        exact ⟨rfl, HR.out⟩
      · have hq : (n.toList == t.toList) = false := by rw [Lib.toList_data, Lib.toList_data]; simpa using hnt
        obtain ⟨g, cap, rfl, hcap, hcm⟩ := h.place hx
        have c1 := h.c1
        obtain ⟨p0, p1, p2⟩ := h.at_ i x hx
        have hil' : (i : Int) < (l.length : Int) := by omega
        have hb1 := (Below.refl w.heap.size w).alloc (Nat.le_refl _) (.cells #[.string (strOf x.name), .string (strOf x.bs), .int .i64 (x.safe : Int)] 62)
        have HD := hid (rdrop_any (h.under hb1) (by omega) hk.srt hx)
        rw [hxn] at HD
        have HBX := hid (heap_alloc_new w (.cells #[.string (strOf x.name), .string (strOf x.bs), .int .i64 (x.safe : Int)] 62))
        have HB1 := hid hb1
        have hT : ∀ k, T k → k < w.heap.size := h.below
        have HT := hid hT
        have HS := hid hk.srt
        clear h hlk hi hx hb hk hb1 hT
        go_enter Try.func34, Try.ntmps34
        go_wp2_with fail
        refine HN.out.mono ?_
        rintro e w1 ⟨rfl, h⟩
        have h' := h.symm
        subst h'
        clear h
        go_wp2_with fail
        refine HA.out.mono ?_
        rintro e w2 ⟨rfl, h⟩
        have h' := h.symm
        subst h'
        clear h
        go_wp2_with fail
        refine HD.out.mono ?_
        rintro e w3 ⟨rfl, hr⟩
        obtain ⟨T1, v1, hm⟩ := RenMid.one HT.out hr
        have HM := hid hm
        clear hr hm
        have HA2 := hid (at_any HM.out.ref (by have := adel_len l n.data.toList; omega) t)
        cases hj : idx (adel l n.data.toList) t.data.toList with
        | none =>
          rw [idxI_no hj] at HA2
          have hnm := (idx_no hj).2
          have HAll := hid (adel_all hnm)
          clear hnm hj
          go_wp2_with fail
          refine HA2.out.mono ?_
          rintro e w4 ⟨rfl, h⟩
          have h' := h.symm
          subst h'
          clear h
          have HP := hid (rput_box (y := ⟨t.data.toList, x.bs, x.safe⟩) (l1 := adel l n.data.toList) (by show RefM _ _ _ _ _ (adel (adel l n.data.toList) t.data.toList); rw [HAll.out]; exact HM.out.ref) (by have := adel_len l n.data.toList; omega) (srt_adel _ HS.out) w.heap.size (HM.out.off HT.out) (.string t))
          simp only [strOf_of] at HP
          have e0 : w3.cell? ⟨w.heap.size, 0, none⟩ = some (.string (strOf n.data.toList)) := by simp [World.cell?, HM.out.box]
          have e1 : w3.cell? ⟨w.heap.size, 1, none⟩ = some (.string (strOf x.bs)) := by simp [World.cell?, HM.out.box]
          have e2 : w3.cell? ⟨w.heap.size, 2, none⟩ = some (.int .i64 (x.safe : Int)) := by simp [World.cell?, HM.out.box]
          have f0 : w3.frozen? ⟨w.heap.size, 0, none⟩ = false := by simp [World.frozen?, HM.out.box]
          go_wp2_with fail
          refine HP.out.mono ?_
          rintro e w5 ⟨rfl, hr⟩
          have HZ := hid (RAfter.wrap (Nat.le_refl _) HM.out.keep (fun k hk => (HM.out.new k hk).imp id (fun h => by omega)) HM.out.old hr)
          clear hr
          go_wp2_with fail
          go_ret
          exact ⟨rfl, HZ.out⟩
        | some j =>
          rw [idxI_yes hj] at HA2
          obtain ⟨y, hy, hyn, _, hjl⟩ := idx_yes hj
          have HD2 := hid (rdrop_any HM.out.ref (by have := adel_len l n.data.toList; omega) (srt_adel _ HS.out) hy)
          rw [hyn] at HD2
          have hj0 : (0 : Int) ≤ (j : Int) := by omega
          clear hj hy hyn
          go_wp2_with fail
          refine HA2.out.mono ?_
          rintro e w4 ⟨rfl, h⟩
          have h' := h.symm
          subst h'
          clear h
          go_wp2_with fail
          refine HD2.out.mono ?_
          rintro e w4 ⟨rfl, hr⟩
          obtain ⟨T2, v2, hm⟩ := RenMid.two HT.out HM.out hr
          have HM2 := hid hm
          clear hr hm
          have HP := hid (rput_box (y := ⟨t.data.toList, x.bs, x.safe⟩) (l1 := adel l n.data.toList) (HM2.out.ref) (by have := adel_len l n.data.toList; omega) (srt_adel _ HS.out) w.heap.size (HM2.out.off HT.out) (.string t))
          simp only [strOf_of] at HP
          have e0 : w4.cell? ⟨w.heap.size, 0, none⟩ = some (.string (strOf n.data.toList)) := by simp [World.cell?, HM2.out.box]
          have e1 : w4.cell? ⟨w.heap.size, 1, none⟩ = some (.string (strOf x.bs)) := by simp [World.cell?, HM2.out.box]
          have e2 : w4.cell? ⟨w.heap.size, 2, none⟩ = some (.int .i64 (x.safe : Int)) := by simp [World.cell?, HM2.out.box]
          have f0 : w4.frozen? ⟨w.heap.size, 0, none⟩ = false := by simp [World.frozen?, HM2.out.box]
          go_wp2_with fail
          refine HP.out.mono ?_
          rintro e w5 ⟨rfl, hr⟩
          have HZ := hid (RAfter.wrap (Nat.le_refl _) HM2.out.keep (fun k hk => (HM2.out.new k hk).imp id (fun h => by omega)) HM2.out.old hr)
          clear hr
          go_wp2_with fail
          go_ret
          exact ⟨rfl, HZ.out⟩
end Go.Proofs.Ytpdghpmfacaglaa
