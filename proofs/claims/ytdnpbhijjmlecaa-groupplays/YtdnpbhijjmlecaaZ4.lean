/- What is told of all groups; Epoch, no kind; why a Join is refused. -/
import Derived.Test.YtdnpbhijjmlecaaZ3
namespace Go.Proofs.Ytdnpbhijjmlecaa
open Go.RowKit Go.Maps
set_option maxRecDepth 100000
set_option linter.unusedSimpArgs false
set_option linter.unusedVariables false

theorem joinE_1 {gs : GL} {m : Rc} (h : nameB m.name = false ∨ m.a < 0 ∨ riseB 0 m.list = false) : joinE gs m = 1 := by unfold joinE; rw [if_pos h]
theorem joinE_8 {gs : GL} {m : Rc} (h1 : nameB m.name = true) (h2 : ¬ m.a < 0) (h3 : riseB 0 m.list = true) (h4 : 0 < m.a) (h5 : (getG gs m.key).isSome = false) : joinE gs m = 8 := by
  unfold joinE; rw [if_neg (by simp [h1, h2, h3]), if_pos ⟨h4, h5⟩]
theorem joinE_17 {gs : GL} {m : Rc} (h1 : nameB m.name = true) (h2 : ¬ m.a < 0) (h3 : riseB 0 m.list = true) (h4 : 0 < m.a) (h5 : (getG gs m.key).isSome = true) (h6 : hasM (foundG gs m.key) m.a = false) : joinE gs m = 17 := by
  unfold joinE; rw [if_neg (by simp [h1, h2, h3]), if_neg (by simp [h5]), if_pos ⟨h4, h6⟩]
def manyB (gs : GL) (m : Rc) : Bool := (!(getG gs m.key).isSome && decide (8 ≤ gs.length)) || (decide (m.a = 0) && decide (16 ≤ (foundG gs m.key).mem.length)) || decide (1000000 ≤ (foundG gs m.key).ever)
theorem joinE_3 {gs : GL} {m : Rc} (h1 : nameB m.name = true) (h2 : ¬ m.a < 0) (h3 : riseB 0 m.list = true) (h4 : ¬ (0 < m.a ∧ (getG gs m.key).isSome = false)) (h5 : ¬ (0 < m.a ∧ hasM (foundG gs m.key) m.a = false)) : joinE gs m = if manyB gs m = true then 3 else 0 := by
  unfold joinE manyB
  rw [if_neg (by simp [h1, h2, h3]), if_neg h4, if_neg h5]
  congr 1
  simp [or_assoc]
set_option maxHeartbeats 6400000 in
theorem joinE_any {w : World} {Z : Nat → Prop} {q : Nat} {S : Gs} {N : Nat} (h : AllM w Z q S) (hok : GsOk N S) (m : Rc) (hrc : RcOk m) (hnm : m.name.size ≤ maxLen) (la : Option Addr) (lc : Nat) (hl : IL w (.slice la m.list.length lc) m.list) :
    Calls Try.prog 46 #[.pointer (some ⟨q, 0, none⟩), recV m (.slice la m.list.length lc)] w fun e w' => e = .returned (.int .i64 (joinE S.gs m)) ∧ Below w.heap.size w w' := by
  have hbA : Below w.heap.size w (w.alloc (.cells (recA m (.slice la m.list.length lc)) 32)) := (Below.refl _ _).alloc (Nat.le_refl _) _
  have HF := hid (find_any (h.under hbA) m.name hnm)
  obtain ⟨b, es, hA, _⟩ := h
  have HA := hid (hA.under hbA)
  have HBA := hid hbA
  have HL := hid (hl.under hbA)
  have hB := heap_alloc_new w (.cells (recA m (.slice la m.list.length lc)) 32)
  have HK := hid (foundOk hok m.key)
  have HIN := hid (fun V => isName_any m.name V hnm)
  have a1 := cell_blk hB 1 _ rfl
  have a5 := cell_blk hB 5 _ rfl
  have a7 := cell_blk hB 7 _ rfl
  have hq := hA.qlt
  have hra := hrc.2.1
  have HGL : Hid (S.gs.length = es.length) := by show _ = _; rw [hA.abs, List.length_map]
  have hes : es.length ≤ 8 := by have := hok.few; rw [hA.abs, List.length_map] at this; exact this
  have HGT := hid (hA.get m.key)
  have HJ1 := hid (joinE_1 (gs := S.gs) (m := m))
  have HJ8 := hid (joinE_8 (gs := S.gs) (m := m))
  have HJ17 := hid (joinE_17 (gs := S.gs) (m := m))
  have HJ3 := hid (joinE_3 (gs := S.gs) (m := m))
  have HMB : Hid (manyB S.gs m = ((!(getG S.gs m.key).isSome && decide (8 ≤ S.gs.length)) || (decide (m.a = 0) && decide (16 ≤ (foundG S.gs m.key).mem.length)) || decide (1000000 ≤ (foundG S.gs m.key).ever))) := rfl
  unfold recV recA at *
  unfold I64 at hra
  clear hA hbA hB hl hok hrc
  generalize joinE S.gs m = E at *
  generalize manyB S.gs m = MB at *
  go_enter Try.func46, Try.ntmps46
  go_wp2_with fail
  generalize w.alloc (.cells #[.int .i64 m.kind, .int .i64 m.a, .int .i64 m.b, .int .i64 m.c, .int .i64 m.d, .string m.name, .string m.text, .slice la m.list.length lc] 32) = W at *
  obtain ⟨y, hy⟩ : ∃ y, y = w.heap.size := ⟨_, rfl⟩
  have HY := hid hy
  rw [← hy] at a1 a5 a7 hq ⊢
  clear hy
  refine HF.out.mono ?_
  rintro e w1 ⟨k, vm, vp, vo, rfl, hr1, hb1⟩
  have HR1 := hid hr1
  have hb1d : Below W.heap.size W w1.drew := hb1.drew
  have hlk := (HA.out.under hb1d).look_ok m.name hnm
  obtain ⟨P, hP⟩ : ∃ P, P = ptrE es m.name.data.toList := ⟨_, rfl⟩
  have HGT2 : Hid ((getG S.gs m.key).isSome = (findE es m.name.data.toList).isSome) := by show _ = _; rw [HGT.out]; unfold Rc.key; cases findE es m.name.data.toList <;> rfl
  rw [← hP] at hlk
  clear hP
  generalize (findE es m.name.data.toList).isSome = okB at *
  have hKeep : ∀ V, Below W.heap.size W V → V.cell? ⟨q, 0, none⟩ = some (.map (some b)) ∧ V.cell? ⟨y, 1, none⟩ = some (.int .i64 m.a) ∧ V.cell? ⟨y, 5, none⟩ = some (.string m.name) ∧ V.cell? ⟨y, 7, none⟩ = some (.slice la m.list.length lc) := fun V hV => ⟨(HA.out.under hV).c0, kept_cell hV a1, kept_cell hV a5, kept_cell hV a7⟩
  have HKP := hid hKeep
  obtain ⟨c0, b1, b5, b7⟩ := hKeep w1 hb1
  have HB1 := hid hb1d
  clear hr1 hb1 hb1d HF a1 a5 a7 hKeep
  unfold ptr
  go_wp2_with fail
  go_region_held3 (fun V => V.cell? ⟨q, 0, none⟩ = some (.map (some b)) ∧ V.cell? ⟨y, 5, none⟩ = some (.string m.name)) (go_keep) (fail)
  obtain ⟨W2, hW2⟩ : ∃ W2, W2 = w1.drew := ⟨_, rfl⟩
  rw [← hW2] at HB1 ⊢
  have HR2 : Hid (GrR W2 k vm vp vo (foundG S.gs m.key)) := by rw [hW2]; exact HR1.out.under (Below.refl _ _).drew
  clear hW2 hlk c0 b1 b5 b7 HR1
  obtain ⟨c0, b1, b5, b7⟩ := HKP.out W2 HB1.out
  have HBB : Hid (Below y w W2) := by rw [HY.out]; exact HBA.out.trans (HB1.out.mono HBA.out.size)
  have HRS := hid (isRising_any (HL.out.under HB1.out))
  have HHAS := hid (has_any HR2.out HK.out.m1000 m.a)
  cases hB1 : nameB m.name with
  | false =>
    rw [hB1] at HIN
    have HE := hid (HJ1.out (.inl hB1))
    clear hB1
    go_wp2_with (first | (go_at_call 55; refine (HIN.out _).mono ?_; rintro e w3 ⟨rfl, rfl⟩) | fail)
    go_ret
    exact ⟨ret_int HE.out.symm, by rw [← HY.out]; exact HBB.out⟩
  | true =>
    rw [hB1] at HIN
    by_cases h2 : m.a < 0
    · have HE := hid (HJ1.out (.inr (.inl h2)))
      clear hB1
      go_wp2_with (first | (go_at_call 55; refine (HIN.out _).mono ?_; rintro e w3 ⟨rfl, rfl⟩) | fail)
      go_ret
      exact ⟨ret_int HE.out.symm, by rw [← HY.out]; exact HBB.out⟩
    · cases hB3 : riseB 0 m.list with
      | false =>
        rw [hB3] at HRS
        have HE := hid (HJ1.out (.inr (.inr hB3)))
        clear hB1 hB3
        go_wp2_with (first | (go_at_call 55; refine (HIN.out _).mono ?_; rintro e w3 ⟨rfl, rfl⟩) | (go_at_call 56; refine HRS.out.mono ?_; rintro e w3 ⟨rfl, rfl⟩) | fail)
        go_ret
        exact ⟨ret_int HE.out.symm, by rw [← HY.out]; exact HBB.out⟩
      | true =>
        rw [hB3] at HRS
        have HE8 := hid (HJ8.out hB1 (by omega) hB3)
        have HE17 := hid (HJ17.out hB1 (by omega) hB3)
        have HE3 := hid (HJ3.out hB1 (by omega) hB3)
        clear hB1 hB3 HJ1 HJ8 HJ17 HJ3
        have hlen : ∀ V, Below W.heap.size W V → ∀ ty, (Builtin.len_ #[52] ty #[.map (some b)]).run Try.prog V = .ok (.int .i64 (es.length : Int)) V := fun V hV ty => by
          have := World.ownsMap.len (HA.out.under hV).bmap Try.underlying52 ty
          rw [gmap_size] at this
          exact this
        have HLEN := hid hlen
        have hcells : ∀ V, Below W2.heap.size W2 V → V.cell? ⟨k, 1, none⟩ = some (.int .i64 (foundG S.gs m.key).ever) ∧ V.cell? ⟨k, 2, none⟩ = some vm := fun V hV => ⟨(HR2.out.under hV).c1, (HR2.out.under hV).c2⟩
        obtain ⟨oa, cap, hvm, _⟩ := row_shape HR2.out.mem
        have HCELL := hid hcells
        rw [HGT2.out, HGL.out] at HMB
        rw [HGT2.out] at HE8 HE17 HE3
        clear hlen hcells HGT2 HGL HGT
        rw [hvm] at HCELL
        clear hvm HR2
        generalize (foundG S.gs m.key).ever = ev at *
        generalize (foundG S.gs m.key).mem.length = ml at *
        generalize hasM (foundG S.gs m.key) m.a = hM at *
        by_cases h4 : 0 < m.a
        · have hne : ¬ m.a = 0 := by omega
          cases okB with
          | false =>
            have HE := hid (HE8.out h4 rfl)
            clear HE8 HE17 HE3
            go_wp2_with (first | (go_at_call 55; refine (HIN.out _).mono ?_; rintro e w3 ⟨rfl, rfl⟩) | (go_at_call 56; refine HRS.out.mono ?_; rintro e w3 ⟨rfl, rfl⟩) | (go_at_call 57; refine HHAS.out.mono ?_; rintro e w3 ⟨rfl, hb3⟩; have HB3 := hid hb3; clear hb3) | fail)
            go_ret
            exact ⟨ret_int HE.out.symm, by rw [← HY.out]; exact HBB.out⟩
          | true =>
            cases hM with
            | false =>
              have HE := hid (HE17.out h4 rfl rfl)
              clear HE8 HE17 HE3
              go_wp2_with (first | (go_at_call 55; refine (HIN.out _).mono ?_; rintro e w3 ⟨rfl, rfl⟩) | (go_at_call 56; refine HRS.out.mono ?_; rintro e w3 ⟨rfl, rfl⟩) | (go_at_call 57; refine HHAS.out.mono ?_; rintro e w3 ⟨rfl, hb3⟩; have HB3 := hid hb3; clear hb3) | fail)
              go_ret
              exact ⟨ret_int HE.out.symm, by have hb := HBB.out; rw [HY.out] at hb; exact hb.trans (HB3.out.mono hb.size)⟩
            | true =>
              have HE := hid (HE3.out (by simp) (by simp))
              clear HE8 HE17 HE3
              obtain ⟨k1, k2⟩ := HCELL.out W2 (Below.refl _ _)
              by_cases h1 : 1000000 ≤ ev
              · have HM3 : Hid (MB = true) := by show _ = _; rw [HMB.out]; simp [h1]
                rw [HM3.out, if_pos rfl] at HE
                clear HMB HM3
                go_upto_region 9 with (first | (go_at_call 55; refine (HIN.out _).mono ?_; rintro e w3 ⟨rfl, rfl⟩) | (go_at_call 56; refine HRS.out.mono ?_; rintro e w3 ⟨rfl, rfl⟩) | (go_at_call 57; refine HHAS.out.mono ?_; rintro e w3 ⟨rfl, hb3⟩; have HB3 := hid hb3; clear hb3) | fail)
                have k1' := kept_cell HB3.out k1
                have b1' := kept_cell HB3.out b1
                clear k1 k2 b1 c0 b5 b7
                go_wp2_with fail
                go_ret
                exact ⟨ret_int HE.out.symm, by have hb := HBB.out; rw [HY.out] at hb; exact hb.trans (HB3.out.mono hb.size)⟩
              · have HM3 : Hid (MB = false) := by show _ = _; rw [HMB.out]; simp [h1, hne]
                rw [HM3.out, if_neg (by simp)] at HE
                clear HMB HM3
                go_upto_region 9 with (first | (go_at_call 55; refine (HIN.out _).mono ?_; rintro e w3 ⟨rfl, rfl⟩) | (go_at_call 56; refine HRS.out.mono ?_; rintro e w3 ⟨rfl, rfl⟩) | (go_at_call 57; refine HHAS.out.mono ?_; rintro e w3 ⟨rfl, hb3⟩; have HB3 := hid hb3; clear hb3) | fail)
                have k1' := kept_cell HB3.out k1
                have b1' := kept_cell HB3.out b1
                clear k1 k2 b1 c0 b5 b7
                go_wp2_with fail
                go_ret
                exact ⟨ret_int HE.out.symm, by have hb := HBB.out; rw [HY.out] at hb; exact hb.trans (HB3.out.mono hb.size)⟩
        · have hz : m.a = 0 := by omega
          have HE := hid (HE3.out (fun h => h4 h.1) (fun h => h4 h.1))
          obtain ⟨k1, k2⟩ := HCELL.out W2 (Below.refl _ _)
          have hlen := HLEN.out W2 HB1.out
          clear HE8 HE17 HE3 HHAS
          rw [hz] at b1
          have HMB2 : Hid (MB = ((!okB && decide (8 ≤ es.length)) || decide (16 ≤ ml) || decide (1000000 ≤ ev))) := by show _ = _; rw [HMB.out]; simp [hz]
          clear HMB h4 h2 hz hra
          by_cases h8 : 8 ≤ es.length
          · have h8' : ¬ (es.length : Int) < 8 := by omega
            cases okB with
            | false =>
              have HM3 : Hid (MB = true) := by show _ = _; rw [HMB2.out]; simp [h8]
              rw [HM3.out, if_pos rfl] at HE
              clear HMB2 HM3
              go_wp2_with (first | (go_at_call 55; refine (HIN.out _).mono ?_; rintro e w3 ⟨rfl, rfl⟩) | (go_at_call 56; refine HRS.out.mono ?_; rintro e w3 ⟨rfl, rfl⟩) | (go_at_call 57; refine HHAS.out.mono ?_; rintro e w3 ⟨rfl, hb3⟩; have HB3 := hid hb3; clear hb3) | fail)
              go_ret
              exact ⟨ret_int HE.out.symm, by rw [← HY.out]; exact HBB.out⟩
            | true =>
              by_cases h16 : 16 ≤ ml
              · have HM3 : Hid (MB = true) := by show _ = _; rw [HMB2.out]; simp [h16]
                rw [HM3.out, if_pos rfl] at HE
                have h16' : (16 : Int) ≤ (ml : Int) := by omega
                clear HMB2 HM3
                go_wp2_with (first | (go_at_call 55; refine (HIN.out _).mono ?_; rintro e w3 ⟨rfl, rfl⟩) | (go_at_call 56; refine HRS.out.mono ?_; rintro e w3 ⟨rfl, rfl⟩) | (go_at_call 57; refine HHAS.out.mono ?_; rintro e w3 ⟨rfl, hb3⟩; have HB3 := hid hb3; clear hb3) | fail)
                go_ret
                exact ⟨ret_int HE.out.symm, by rw [← HY.out]; exact HBB.out⟩
              · have h16' : ¬ (16 : Int) ≤ (ml : Int) := by omega
                by_cases h1 : 1000000 ≤ ev
                · have HM3 : Hid (MB = true) := by show _ = _; rw [HMB2.out]; simp [h1]
                  rw [HM3.out, if_pos rfl] at HE
                  clear HMB2 HM3
                  go_wp2_with (first | (go_at_call 55; refine (HIN.out _).mono ?_; rintro e w3 ⟨rfl, rfl⟩) | (go_at_call 56; refine HRS.out.mono ?_; rintro e w3 ⟨rfl, rfl⟩) | (go_at_call 57; refine HHAS.out.mono ?_; rintro e w3 ⟨rfl, hb3⟩; have HB3 := hid hb3; clear hb3) | fail)
                  go_ret
                  exact ⟨ret_int HE.out.symm, by rw [← HY.out]; exact HBB.out⟩
                · have HM3 : Hid (MB = false) := by show _ = _; rw [HMB2.out]; simp [h1, h16]
                  rw [HM3.out, if_neg (by simp)] at HE
                  clear HMB2 HM3
                  go_wp2_with (first | (go_at_call 55; refine (HIN.out _).mono ?_; rintro e w3 ⟨rfl, rfl⟩) | (go_at_call 56; refine HRS.out.mono ?_; rintro e w3 ⟨rfl, rfl⟩) | (go_at_call 57; refine HHAS.out.mono ?_; rintro e w3 ⟨rfl, hb3⟩; have HB3 := hid hb3; clear hb3) | fail)
                  go_ret
                  exact ⟨ret_int HE.out.symm, by rw [← HY.out]; exact HBB.out⟩
          · have h8' : ¬ (8 : Int) ≤ (es.length : Int) := by omega
            by_cases h16 : 16 ≤ ml
            · have HM3 : Hid (MB = true) := by show _ = _; rw [HMB2.out]; simp [h16]
              rw [HM3.out, if_pos rfl] at HE
              have h16' : (16 : Int) ≤ (ml : Int) := by omega
              clear HMB2 HM3
              cases okB with
              | false =>
                go_wp2_with (first | (go_at_call 55; refine (HIN.out _).mono ?_; rintro e w3 ⟨rfl, rfl⟩) | (go_at_call 56; refine HRS.out.mono ?_; rintro e w3 ⟨rfl, rfl⟩) | (go_at_call 57; refine HHAS.out.mono ?_; rintro e w3 ⟨rfl, hb3⟩; have HB3 := hid hb3; clear hb3) | fail)
                go_ret
                exact ⟨ret_int HE.out.symm, by rw [← HY.out]; exact HBB.out⟩
              | true =>
                go_wp2_with (first | (go_at_call 55; refine (HIN.out _).mono ?_; rintro e w3 ⟨rfl, rfl⟩) | (go_at_call 56; refine HRS.out.mono ?_; rintro e w3 ⟨rfl, rfl⟩) | (go_at_call 57; refine HHAS.out.mono ?_; rintro e w3 ⟨rfl, hb3⟩; have HB3 := hid hb3; clear hb3) | fail)
                go_ret
                exact ⟨ret_int HE.out.symm, by rw [← HY.out]; exact HBB.out⟩
            · have h16' : ¬ (16 : Int) ≤ (ml : Int) := by omega
              by_cases h1 : 1000000 ≤ ev
              · have HM3 : Hid (MB = true) := by show _ = _; rw [HMB2.out]; simp [h1]
                rw [HM3.out, if_pos rfl] at HE
                clear HMB2 HM3
                cases okB with
                | false =>
                  go_wp2_with (first | (go_at_call 55; refine (HIN.out _).mono ?_; rintro e w3 ⟨rfl, rfl⟩) | (go_at_call 56; refine HRS.out.mono ?_; rintro e w3 ⟨rfl, rfl⟩) | (go_at_call 57; refine HHAS.out.mono ?_; rintro e w3 ⟨rfl, hb3⟩; have HB3 := hid hb3; clear hb3) | fail)
                  go_ret
                  exact ⟨ret_int HE.out.symm, by rw [← HY.out]; exact HBB.out⟩
                | true =>
                  go_wp2_with (first | (go_at_call 55; refine (HIN.out _).mono ?_; rintro e w3 ⟨rfl, rfl⟩) | (go_at_call 56; refine HRS.out.mono ?_; rintro e w3 ⟨rfl, rfl⟩) | (go_at_call 57; refine HHAS.out.mono ?_; rintro e w3 ⟨rfl, hb3⟩; have HB3 := hid hb3; clear hb3) | fail)
                  go_ret
                  exact ⟨ret_int HE.out.symm, by rw [← HY.out]; exact HBB.out⟩
              · have HM3 : Hid (MB = false) := by show _ = _; rw [HMB2.out]; simp [h1, h16, h8]
                rw [HM3.out, if_neg (by simp)] at HE
                clear HMB2 HM3
                cases okB with
                | false =>
                  go_wp2_with (first | (go_at_call 55; refine (HIN.out _).mono ?_; rintro e w3 ⟨rfl, rfl⟩) | (go_at_call 56; refine HRS.out.mono ?_; rintro e w3 ⟨rfl, rfl⟩) | (go_at_call 57; refine HHAS.out.mono ?_; rintro e w3 ⟨rfl, hb3⟩; have HB3 := hid hb3; clear hb3) | fail)
                  go_ret
                  exact ⟨ret_int HE.out.symm, by rw [← HY.out]; exact HBB.out⟩
                | true =>
                  go_wp2_with (first | (go_at_call 55; refine (HIN.out _).mono ?_; rintro e w3 ⟨rfl, rfl⟩) | (go_at_call 56; refine HRS.out.mono ?_; rintro e w3 ⟨rfl, rfl⟩) | (go_at_call 57; refine HHAS.out.mono ?_; rintro e w3 ⟨rfl, hb3⟩; have HB3 := hid hb3; clear hb3) | fail)
                  go_ret
                  exact ⟨ret_int HE.out.symm, by rw [← HY.out]; exact HBB.out⟩
end Go.Proofs.Ytdnpbhijjmlecaa

