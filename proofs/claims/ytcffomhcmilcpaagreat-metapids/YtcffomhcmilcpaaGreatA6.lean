/- A name; a topic's place. -/
import Derived.Test.YtcffomhcmilcpaaGreatA3
import Derived.Test.YtcffomhcmilcpaaGreatA1b
import Derived.Shelf.Pu.Clone
namespace Go.Proofs.YtcffomhcmilcpaaGreat
open Go.RowKit Go.Maps
set_option maxRecDepth 100000
set_option linter.unusedSimpArgs false
set_option linter.unusedVariables false

def cloneRen : Go.Shelf.Ren := ⟨fun | 25 => 160 | n => n, fun | 37 => 46 | 47 => 185 | n => n, fun | n => n⟩
theorem cloneLaid : Go.Proofs.LaysPu.n25 Tryz.prog cloneRen := {
  mixed := by kernel_rfl
  f25 := Tryz.func160.trans (congrArg some (by kernel_rfl))
  t0 := by kernel_rfl
  a0 := fun w => by kernel_rfl
  z0 := fun w => by kernel_rfl
  v0 := fun w => by kernel_rfl
  i0 := by kernel_rfl
  t3 := Tryz.underlying3
  a3 := fun w => by kernel_rfl
  z3 := fun w => by kernel_rfl
  v3 := fun w => by kernel_rfl
  i3 := by kernel_rfl
  t4 := Tryz.underlying4
  a4 := fun w => by kernel_rfl
  z4 := fun w => by kernel_rfl
  v4 := fun w => by kernel_rfl
  i4 := by kernel_rfl
  t5 := Tryz.underlying5
  a5 := fun w => by kernel_rfl
  z5 := fun w => by kernel_rfl
  v5 := fun w => by kernel_rfl
  i5 := by kernel_rfl
  t9 := Tryz.underlying9
  a9 := fun w => by kernel_rfl
  z9 := fun w => by kernel_rfl
  v9 := fun w => by kernel_rfl
  i9 := by kernel_rfl
  t37 := Tryz.underlying46
  a37 := fun w => by kernel_rfl
  z37 := fun w => by kernel_rfl
  v37 := fun w => by kernel_rfl
  i37 := by kernel_rfl
  t47 := by kernel_rfl
  a47 := fun w => by kernel_rfl
  z47 := fun w => by kernel_rfl
  v47 := fun w => by kernel_rfl
  i47 := by kernel_rfl }
theorem clone160 (s : ByteArray) (w : World) (h : s.size ≤ 281474976710656) : Calls Tryz.prog 160 #[.string s] w fun e w' => e = .returned (.string s) ∧ Below w.heap.size w w' :=
  AnyPu.stringslite_Clone cloneLaid s w h
set_option maxHeartbeats 400000 in
theorem sclone_any (s : ByteArray) (w : World) (h : s.size ≤ 281474976710656) : Calls Tryz.prog 119 #[.string s] w fun e w' => e = .returned (.string s) ∧ Below w.heap.size w w' := by
  have H57 := hid (clone160 s w h)
  go_enter Tryz.func119, Tryz.ntmps119
  go_wp2_with (go_at_call 160; refine H57.out.mono ?_; rintro e w1 ⟨rfl, hb1⟩)
  go_ret
  exact ⟨rfl, hb1⟩
set_option maxHeartbeats 1600000 in
theorem ofName_any (c : UInt8) (w : World) : Calls Tryz.prog 135 #[.int .u8 (c.toNat : Int)] w fun e w' => e = .returned (.bool (isOfB c)) ∧ w = w' := by
  have hc : c.toNat < 256 := UInt8.toNat_lt c
  have HF : Hid (isOfB c = ((decide (97 ≤ c.toNat) && decide (c.toNat ≤ 122)) || (decide (48 ≤ c.toNat) && decide (c.toNat ≤ 57)) || decide (c.toNat = 45))) := by
    show _ = _
    unfold isOfB
    congr 1
    rw [Bool.eq_iff_iff]
    simp only [beq_iff_eq, decide_eq_true_eq]
    constructor
    · rintro rfl; rfl
    · intro h; exact UInt8.toNat_inj.1 h
  generalize isOfB c = B at *
  generalize c.toNat = n at *
  have HF2 := HF
  by_cases h1 : 97 ≤ n
  · by_cases h2 : n ≤ 122
    · have h1' : (97 : Int) ≤ (n : Int) := by omega
      have h2' : (n : Int) ≤ 122 := by omega
      go_enter Tryz.func135, Tryz.ntmps135
      go_wp2_with fail
      go_ret
      exact ⟨ret_bool (by rw [HF2.out]; simp [h1, h2]), rfl⟩
    · have h1' : (97 : Int) ≤ (n : Int) := by omega
      have h2' : ¬ (n : Int) ≤ 122 := by omega
      have h3' : (48 : Int) ≤ (n : Int) := by omega
      have h4' : ¬ (n : Int) ≤ 57 := by omega
      have h5' : ¬ (n : Int) = 45 := by omega
      go_enter Tryz.func135, Tryz.ntmps135
      go_wp2_with fail
      go_ret
      exact ⟨ret_bool (by rw [HF2.out, Bool.eq_iff_iff]; simp only [Bool.or_eq_true, Bool.and_eq_true, decide_eq_true_eq, Bool.false_eq_true, false_iff, true_iff, beq_iff_eq]; try omega), rfl⟩
  · by_cases h3 : 48 ≤ n
    · by_cases h4 : n ≤ 57
      · have h1' : ¬ (97 : Int) ≤ (n : Int) := by omega
        have h3' : (48 : Int) ≤ (n : Int) := by omega
        have h4' : (n : Int) ≤ 57 := by omega
        go_enter Tryz.func135, Tryz.ntmps135
        go_wp2_with fail
        go_ret
        exact ⟨ret_bool (by rw [HF2.out, Bool.eq_iff_iff]; simp only [Bool.or_eq_true, Bool.and_eq_true, decide_eq_true_eq, Bool.false_eq_true, false_iff, true_iff, beq_iff_eq]; try omega), rfl⟩
      · have h1' : ¬ (97 : Int) ≤ (n : Int) := by omega
        have h3' : (48 : Int) ≤ (n : Int) := by omega
        have h4' : ¬ (n : Int) ≤ 57 := by omega
        have h5' : ¬ (n : Int) = 45 := by omega
        go_enter Tryz.func135, Tryz.ntmps135
        go_wp2_with fail
        go_ret
        exact ⟨ret_bool (by rw [HF2.out, Bool.eq_iff_iff]; simp only [Bool.or_eq_true, Bool.and_eq_true, decide_eq_true_eq, Bool.false_eq_true, false_iff, true_iff, beq_iff_eq]; try omega), rfl⟩
    · have h1' : ¬ (97 : Int) ≤ (n : Int) := by omega
      have h3' : ¬ (48 : Int) ≤ (n : Int) := by omega
      by_cases h5 : n = 45
      · subst h5
        go_enter Tryz.func135, Tryz.ntmps135
        go_wp2_with fail
        go_ret
        exact ⟨ret_bool (by rw [HF2.out]; simp), rfl⟩
      · have h5' : ¬ (n : Int) = 45 := by omega
        go_enter Tryz.func135, Tryz.ntmps135
        go_wp2_with fail
        go_ret
        exact ⟨ret_bool (by rw [HF2.out, Bool.eq_iff_iff]; simp only [Bool.or_eq_true, Bool.and_eq_true, decide_eq_true_eq, Bool.false_eq_true, false_iff, true_iff, beq_iff_eq]; try omega), rfl⟩
set_option maxHeartbeats 1600000 in
theorem place1_any {w : World} (t : Tp) (s : ByteArray) (r : Nat) (hr : w.heap[r]? = some (.cells #[.string s] 9)) : Calls Tryz.prog 114 #[.agg #[.string t.name, .int .i64 t.first, .int .i64 t.count], .pointer (some ⟨r, 0, none⟩)] w fun e w' => e = .returned (.bool (sameN t.name s)) ∧ Below w.heap.size w w' := by
  have hlt : r < w.heap.size := (Array.getElem?_eq_some_iff.1 hr).1
  have hne : ¬ r = w.heap.size := by omega
  have c0 := cell_blk hr 0 _ rfl
  have HF : Hid (sameN t.name s = (t.name.toList == s.toList)) := rfl
  generalize sameN t.name s = B at *
  go_enter Tryz.func114, Tryz.ntmps114
  go_wp2_with fail
  go_ret
  exact ⟨ret_bool (by rw [HF.out]), (Below.refl _ _).alloc (Nat.le_refl _) _⟩
theorem ImC.top {w : World} {L : Nat → Prop} {q b : Nat} {vp ve : Value} {g n cap : Nat} {ps : List (Value × Pt)} {I : Im} (h : ImC w L q b (.slice (some ⟨g, 0, none⟩) n cap) vp ve ps I) (i : Nat) (x : Tp) (hx : I.tops[i]? = some x) : w.cell? ⟨g, i * 3, none⟩ = some (.string x.name) ∧ w.cell? ⟨g, i * 3 + 1, none⟩ = some (.int .i64 x.first) ∧ w.cell? ⟨g, i * 3 + 2, none⟩ = some (.int .i64 x.count) := by
  have hc := fun j u hu => World.ownsRow.cells h.tops (g := g) rfl j u hu
  obtain ⟨h0, h1, h2⟩ := flatT_get I.tops i x hx
  have k0 := hc _ _ h0
  have k1 := hc _ _ h1
  have k2 := hc _ _ h2
  rw [add_at, Nat.zero_add] at k0 k1 k2
  exact ⟨k0, k1, k2⟩
set_option maxHeartbeats 1600000 in
theorem indexFunc_any {w : World} {L : Nat → Prop} {q b : Nat} {vt vp ve : Value} {ps : List (Value × Pt)} {I : Im} (h : ImC w L q b vt vp ve ps I) (s : ByteArray) (r : Nat) (hr : w.heap[r]? = some (.cells #[.string s] 9)) : Calls Tryz.prog 113 #[vt, .func (.func 114) #[] #[.pointer (some ⟨r, 0, none⟩)]] w fun e w' => (∃ i : Int, e = .returned (.int .i64 i) ∧ (hasT I.tops s = true → 0 ≤ i ∧ ∃ t, I.tops[i.toNat]? = some t ∧ sameN t.name s = true) ∧ (hasT I.tops s = false → i = -1) ∧ i ≤ 16) ∧ Below w.heap.size w w' := by
  have HI := hid h
  have hfew : I.tops.length ≤ 16 := h.ok.topsFew
  obtain ⟨oa, cap, rfl, hcap, hcm, hnn, hat⟩ := row_shape h.tops
  have HR := hid hr
  clear h hr hnn hcm hcap
  go_enter Tryz.func113, Tryz.ntmps113
  go_wp2_with fail
  go_loopg [8] I.tops.length (fun kx s8 wr => ∃ k : Nat, k ≤ I.tops.length ∧ I.tops.length - k ≤ kx ∧ s8 = .int .i64 (k : Int) ∧ Hid ((I.tops.take k).any (fun t => sameN t.name s) = false ∧ Below w.heap.size w wr))
  case atStart => exact ⟨0, Nat.zero_le _, by omega, rfl, by simp, Below.refl _ _⟩
  case round =>
    obtain ⟨k, hk, hkx, rfl, HK⟩ := hrel
    by_cases hlt : k < I.tops.length
    · obtain ⟨g, rfl⟩ := hat (by omega)
      have hx : I.tops[k]? = some I.tops[k] := List.getElem?_eq_getElem hlt
      have HX := hid hx
      obtain ⟨k0, k1, k2⟩ := (HI.out.under HK.out.2).top k _ hx
      have H114 := hid (place1_any I.tops[k] s r ((HK.out.2.block r (Array.getElem?_eq_some_iff.1 HR.out).1).trans HR.out))
      have HT : Hid ((I.tops.take (k + 1)).any (fun t => sameN t.name s) = ((I.tops.take k).any (fun t => sameN t.name s) || sameN I.tops[k].name s)) := by
        show _ = _
        rw [List.take_succ_eq_append_getElem hlt, List.any_append]
        simp
      have HA : Hid (sameN I.tops[k].name s = true → hasT I.tops s = true) := fun h => by
        unfold hasT
        rw [List.any_eq_true]
        exact ⟨I.tops[k], by simp, h⟩
      have hlt' : (k : Int) < (I.tops.length : Int) := by omega
      generalize I.tops[k] = t at *
      clear hx
      cases hB : sameN t.name s with
      | true =>
        rw [hB] at H114
        have HB := hid hB
        go_wp2_with fail
        refine H114.out.mono ?_
        rintro e w1 ⟨rfl, hb1⟩
        go_wp2_with fail
        go_ret
        exact ⟨⟨_, rfl, fun _ => ⟨by omega, t, by simpa using HX.out, HB.out⟩, fun hf => (by rw [HA.out HB.out] at hf; cases hf), by omega⟩, HK.out.2.trans (hb1.mono HK.out.2.size)⟩
      | false =>
        rw [hB] at H114 HT
        go_wp2_with fail
        refine H114.out.mono ?_
        rintro e w1 ⟨rfl, hb1⟩
        have HK2 : Hid ((I.tops.take (k + 1)).any (fun t => sameN t.name s) = false ∧ Below w.heap.size w w1) := ⟨by rw [HT.out, HK.out.1]; rfl, HK.out.2.trans (hb1.mono HK.out.2.size)⟩
        clear hb1 HT HK H114 k0 k1 k2
        go_wp2_with fail
        go_roundg (I.tops.length - (k + 1))
        case measure => omega
        case rel => exact ⟨k + 1, by omega, Nat.le_refl _, by go_num, HK2.out⟩
    · have hlt' : ¬ (k : Int) < (I.tops.length : Int) := by omega
      go_wp2_with fail
      go_ret
      have hN := HK.out.1
      rw [List.take_of_length_le (by omega)] at hN
      have hN' : hasT I.tops s = false := hN
      exact ⟨⟨_, rfl, fun ht => (by rw [hN'] at ht; cases ht), fun _ => rfl, by omega⟩, HK.out.2⟩
set_option maxHeartbeats 1600000 in
theorem place_any {w : World} {L : Nat → Prop} {q b : Nat} {vt vp ve : Value} {ps : List (Value × Pt)} {I : Im} (h : ImC w L q b vt vp ve ps I) (s : ByteArray) : Calls Tryz.prog 65 #[.pointer (some ⟨q, 0, none⟩), .string s] w fun e w' => (∃ i : Int, e = .returned (.int .i64 i) ∧ (hasT I.tops s = true → 0 ≤ i ∧ ∃ t, I.tops[i.toNat]? = some t ∧ sameN t.name s = true) ∧ (hasT I.tops s = false → i = -1) ∧ i ≤ 16) ∧ Below w.heap.size w w' := by
  have hb0 : Below w.heap.size w (w.alloc (.cells #[.string s] 9)) := (Below.refl _ _).alloc (Nat.le_refl _) _
  have H113 := hid (indexFunc_any (h.under hb0) s w.heap.size (heap_alloc_new _ _))
  have c2 := h.c2
  have hq := h.lt (.inl rfl)
  have hne : ¬ q = w.heap.size := by omega
  have HB := hid hb0
  obtain ⟨oa, cap, rfl, _⟩ := row_shape h.tops
  clear h hb0
  go_enter Tryz.func65, Tryz.ntmps65
  go_wp2_with (go_at_call 113; refine H113.out.mono ?_; rintro e w1 ⟨⟨i, rfl, h1⟩, hb1⟩; have H1 := hid h1; clear h1)
  go_ret
  exact ⟨⟨i, rfl, H1.out⟩, HB.out.trans (hb1.mono HB.out.size)⟩
theorem take_at (s : ByteArray) (k : Nat) (h : k < s.size) : s.data.toList.take (k + 1) = s.data.toList.take k ++ [s[k]] := by
  rw [List.take_succ_eq_append_getElem (by simpa using h)]; rfl
set_option maxHeartbeats 1600000 in
theorem isName_any (s : ByteArray) (w : World) (hs : s.size ≤ maxLen) : Calls Tryz.prog 93 #[.string s] w fun e w' => e = .returned (.bool (nameB s)) ∧ w = w' := by
  unfold maxLen at hs
  have HU := hid (fun w => upTo_any (s.size : Int) 32 w (by unfold I64; omega) (by unfold I64; omega))
  have H135 : Hid (∀ c W, Calls Tryz.prog 135 #[.int .u8 ((c : UInt8).toNat : Int)] W fun e w' => e = .returned (.bool (isOfB c)) ∧ W = w') := fun c W => ofName_any c W
  have HF : Hid (nameB s = (upB s.size 32 && s.data.toList.all isOfB)) := rfl
  generalize nameB s = B at *
  cases hb : upB (s.size : Int) 32 with
  | false =>
    rw [hb] at HU HF
    go_enter Tryz.func93, Tryz.ntmps93
    go_wp2_with fail
    refine (HU.out _).mono ?_
    rintro e w1 ⟨rfl, rfl⟩
    go_wp2_with fail
    go_ret
    exact ⟨ret_bool (by rw [HF.out]; rfl), rfl⟩
  | true =>
    rw [hb] at HU HF
    rw [Bool.true_and] at HF
    go_enter Tryz.func93, Tryz.ntmps93
    go_wp2_with fail
    refine (HU.out _).mono ?_
    rintro e w1 ⟨rfl, rfl⟩
    go_wp2_with fail
    go_loopg [10] s.size (fun kx s10 wr => ∃ k : Nat, k ≤ s.size ∧ s.size - k ≤ kx ∧ s10 = .int .i64 (k : Int) ∧ Hid ((s.data.toList.take k).all isOfB = true) ∧ wr = w)
    case atStart => exact ⟨0, Nat.zero_le _, by omega, rfl, by show _ = _; simp, rfl⟩
    case round =>
      obtain ⟨k, hk, hkx, rfl, HK, rfl⟩ := hrel
      by_cases hlt : k < s.size
      · have hlt' : (k : Int) < (s.size : Int) := by omega
        have HT : Hid ((s.data.toList.take (k + 1)).all isOfB = ((s.data.toList.take k).all isOfB && isOfB s[k])) := by
          show _ = _
          rw [take_at s k hlt, List.all_append]
          simp
        have HM : Hid (isOfB s[k] = false → s.data.toList.all isOfB = false) := fun h => by
          rw [List.all_eq_false]
          exact ⟨s[k], by simp [ByteArray.getElem_eq_getElem_data], by simp [h]⟩
        cases hc : isOfB s[k] with
        | false =>
          have HM2 := hid (HM.out hc)
          have HX := hid (H135.out s[k])
          rw [hc] at HX
          clear HM HT hc
          go_wp2_with fail
          refine (HX.out _).mono ?_
          rintro e w1 ⟨rfl, rfl⟩
          go_wp2_with fail
          go_ret
          exact ⟨ret_bool (by rw [HF.out, HM2.out]), rfl⟩
        | true =>
          have HX := hid (H135.out s[k])
          rw [hc] at HX HT
          have HK2 : Hid ((s.data.toList.take (k + 1)).all isOfB = true) := by show _ = _; rw [HT.out, HK.out]; rfl
          clear HM HT hc
          go_wp2_with fail
          refine (HX.out _).mono ?_
          rintro e w1 ⟨rfl, rfl⟩
          go_wp2_with fail
          go_roundg (s.size - (k + 1))
          case measure => omega
          case rel => exact ⟨k + 1, by omega, Nat.le_refl _, by go_num, HK2.out, rfl⟩
      · have hlt' : ¬ (k : Int) < (s.size : Int) := by omega
        go_wp2_with fail
        go_ret
        have hn := HK.out
        rw [List.take_of_length_le (by simp; omega)] at hn
        exact ⟨ret_bool (by rw [HF.out, hn]), rfl⟩
end Go.Proofs.YtcffomhcmilcpaaGreat
