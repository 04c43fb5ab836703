/- What a member owns. -/
import Derived.Test.YtdnpbhijjmlecaaZ0
import Derived.Shelf.Pu.Clone
import Derived.WalkKit
import Derived.WalkSpells
import Derived.WalkLawsBesides
import Derived.Deep.LoopGhost
import Derived.Maps.AppendAt
import Derived.Maps.Range
import Derived.Deep.QuietTactic
import Derived.BigQuiet
import Derived.Lib.SliceRun
import Derived.Laws.AppendOwnNone
namespace Go.Proofs.Ytdnpbhijjmlecaa
open Go.RowKit Go.Maps
set_option maxRecDepth 100000
set_option linter.unusedSimpArgs false
set_option linter.unusedVariables false

theorem bcell {W w1 : World} (hb : Below W.heap.size W w1) : (∀ b o, b < W.heap.size → w1.cell? ⟨b, o, none⟩ = W.cell? ⟨b, o, none⟩) ∧ (∀ b o, b < W.heap.size → w1.frozen? ⟨b, o, none⟩ = W.frozen? ⟨b, o, none⟩) :=
  ⟨fun b o h => hb.cell (p := ⟨b, o, none⟩) h, fun b o h => hb.frozen (p := ⟨b, o, none⟩) h⟩
/-- The cell p of the row that Assign made at W. -/
def PCell (W w' : World) (l : List Int) (K p : Nat) (v : Value) : Prop := w'.cell? ⟨W.heap.size, p, none⟩ = some v ∧ IL w' v (shareL l K p) ∧ In (fun b => W.heap.size + 1 ≤ b) v (shareL l K p) ∧ W.heap.size < w'.heap.size
theorem PCell.under {W w' w2 : World} {l : List Int} {K p : Nat} {v : Value} (h : PCell W w' l K p v) (hb : Below w'.heap.size w' w2) : PCell W w2 l K p v :=
  ⟨kept_cell hb h.1, h.2.1.under hb, h.2.2.1, Nat.lt_of_lt_of_le h.2.2.2 hb.size⟩
set_option maxHeartbeats 3200000 in
theorem partsOf_any {w : World} {q : Nat} {vm vp vo : Value} {x : Gr} (h : GrR w q vm vp vo x) (hf : x.mem.length ≤ 1000) (h64 : ∀ m ∈ x.mem, I64 m.id) (id : Int) (hid' : hasM x id = true) : Calls Try.prog 49 #[.pointer (some ⟨q, 0, none⟩), .int .i64 id] w fun e w' => ∃ v', e = .returned v' ∧ IL w' v' (partsOf x id) ∧ In (fun b => w.heap.size ≤ b) v' (partsOf x id) ∧ Below w.heap.size w w' := by
  have hlen : (idsL x).length = x.mem.length := by simp [idsL]
  have HID : Hid (∀ W, Below w.heap.size w W → Calls Try.prog 37 #[.pointer (some ⟨q, 0, none⟩)] W fun e w' => ∃ a c, e = .returned (.slice a x.mem.length c) ∧ IL w' (.slice a x.mem.length c) (idsL x) ∧ Below W.heap.size W w') := fun W hW => (ids_any (h.under hW) hf h64).mono (by
    rintro e w1 ⟨v1, rfl, h1, h2, hb1⟩
    obtain ⟨a1, c1, rfl⟩ : ∃ a c, v1 = .slice a (idsL x).length c := by obtain ⟨⟨a, cap, e, _⟩, _⟩ := h1; exact ⟨_, _, e⟩
    rw [hlen] at h1 ⊢
    exact ⟨a1, c1, rfl, h1, hb1⟩)
  obtain ⟨p, hp, hpl, HP⟩ : ∃ p : Nat, p < x.mem.length ∧ placeI x.mem id = p ∧ partsOf x id = shareL x.parts x.mem.length p := by
    unfold hasM at hid'
    obtain ⟨p, hp⟩ := Option.isSome_iff_exists.1 hid'
    obtain ⟨m, _, _, hl⟩ := place_some hp
    exact ⟨p, hl, by unfold placeI; rw [hp], by unfold partsOf; rw [hp]; rfl⟩
  have HPL : Hid (∀ W, Below w.heap.size w W → Calls Try.prog 59 #[.pointer (some ⟨q, 0, none⟩), .int .i64 id] W fun e w' => e = .returned (.int .i64 (p : Int)) ∧ Below W.heap.size W w') := fun W hW => by rw [← hpl]; exact place_any (h.under hW) hf id
  obtain ⟨pa, pc, rfl⟩ : ∃ a c, vp = .slice a x.parts.length c := by obtain ⟨⟨a, cap, e, _⟩, _⟩ := h.parts; exact ⟨_, _, e⟩
  have HAS : Hid (∀ W a c, IL W (.slice a x.mem.length c) (idsL x) → Below w.heap.size w W → Calls Try.prog 15 #[.slice a x.mem.length c, .slice pa x.parts.length pc] W fun e w' => e = .returned (.slice (some ⟨W.heap.size, 0, none⟩) x.mem.length x.mem.length) ∧ (∃ oa n c, PCell W w' x.parts x.mem.length p (.slice oa n c)) ∧ Below W.heap.size W w') := fun W a c hi hW => by
    have := assign_any hi (h.under hW).parts (by omega)
    rw [hlen] at this
    refine this.mono ?_
    rintro e w1 ⟨rfl, hai⟩
    obtain ⟨v, g1, g2, g3⟩ := hai.cell p hp
    obtain ⟨oa, n, c, rfl⟩ : ∃ a n c, v = .slice a n c := by obtain ⟨⟨a, cap, e, _⟩, _⟩ := g2; exact ⟨_, _, _, e⟩
    refine ⟨rfl, ⟨oa, n, c, g1, g2, g3, ?_⟩, hai.below⟩
    obtain ⟨ds, d1, d2, _⟩ := hai
    exact (Array.getElem?_eq_some_iff.1 d2).1
  have c3 := h.c3
  have hq := h.lt
  have hB0 : Below w.heap.size w w := Below.refl _ _
  rw [HP]
  have hp' : (p : Int) < (x.mem.length : Int) := by omega
  have hp0 : (0 : Int) ≤ (p : Int) := by omega
  have hK : (x.mem.length : Int) ≤ 1000 := by omega
  clear h h64 hid' hlen hpl HP hp hf
  generalize x.mem.length = K at *
  go_enter Try.func49, Try.ntmps49
  go_wp2_with fail
  go_region_with
    (first
      | (go_at_call 37; refine (HID.out _ (by first | assumption | exact Below.refl _ _ | exact Below.drew (Below.refl _ _) : Below w.heap.size w _)).mono ?_; rintro e w1 ⟨a1, c1, rfl, h1, hb1⟩; have H1 := hid h1; have hB1 := (by first | assumption | exact Below.refl _ _ | exact Below.drew (Below.refl _ _) : Below w.heap.size w _).trans (hb1.mono (by first | assumption | exact Below.refl _ _ | exact Below.drew (Below.refl _ _) : Below w.heap.size w _).size); have hk1 := kept_cell hb1 (by assumption : World.cell? _ ⟨q, 3, none⟩ = some (.slice pa x.parts.length pc)); clear h1)
      | (go_at_call 59; refine (HPL.out _ (by first | assumption | exact Below.refl _ _ | exact Below.drew (Below.refl _ _) : Below w.heap.size w _)).mono ?_; rintro e w2 ⟨rfl, hb2⟩; have hB2 := (by first | assumption | exact Below.refl _ _ | exact Below.drew (Below.refl _ _) : Below w.heap.size w _).trans (hb2.mono (by first | assumption | exact Below.refl _ _ | exact Below.drew (Below.refl _ _) : Below w.heap.size w _).size); have hk2 := kept_cell hb2 (by assumption : World.cell? _ ⟨q, 3, none⟩ = some (.slice pa x.parts.length pc)); first | (have H1b := hid (H1.out.under hb2)) | skip; first | (have HPC2 := hid (HPC.out.under hb2); have hpc2 := HPC2.out.1) | skip)
      | (go_at_call 15; refine (HAS.out _ _ _ (by first | exact H1.out | exact H1b.out | fail) (by first | assumption | exact Below.refl _ _ | exact Below.drew (Below.refl _ _) : Below w.heap.size w _)).mono ?_; rintro e w3 ⟨rfl, ⟨oa, n3, c4, hpc⟩, hb3⟩; have hB3 := (by first | assumption | exact Below.refl _ _ | exact Below.drew (Below.refl _ _) : Below w.heap.size w _).trans (hb3.mono (by first | assumption | exact Below.refl _ _ | exact Below.drew (Below.refl _ _) : Below w.heap.size w _).size); have hk3 := kept_cell hb3 (by assumption : World.cell? _ ⟨q, 3, none⟩ = some (.slice pa x.parts.length pc)); have HPC := hid hpc; have hpc1 := hpc.1; clear hpc)
      | fail)
  all_goals
    go_wp2_with fail
    go_ret
    first
      | exact ⟨_, rfl, HPC2.out.2.1, HPC2.out.2.2.1.mono (fun b hb => by have := hB1.size; omega), hB2⟩
      | exact ⟨_, rfl, HPC.out.2.1, HPC.out.2.2.1.mono (fun b hb => by have := hB2.size; omega), hB3⟩
      | exact ⟨_, rfl, HPC.out.2.1, HPC.out.2.2.1.mono (fun b hb => by have := hB1.size; omega), hB3⟩
end Go.Proofs.Ytdnpbhijjmlecaa

/- Names, rising lists, offsets; kinds. -/
namespace Go.Proofs.Ytdnpbhijjmlecaa
open Go.RowKit Go.Maps
set_option maxRecDepth 100000
set_option linter.unusedSimpArgs false
set_option linter.unusedVariables false

def cloneRen : Go.Shelf.Ren := ⟨fun | 25 => 68 | n => n, fun | 37 => 113 | 47 => 114 | n => n, fun | n => n⟩
theorem cloneLaid : Go.Proofs.LaysPu.n25 Try.prog cloneRen := {
  mixed := by kernel_rfl
  f25 := Try.func68.trans (congrArg some (by kernel_rfl))
  t0 := by kernel_rfl
  a0 := fun w => by kernel_rfl
  z0 := fun w => by kernel_rfl
  v0 := fun w => by kernel_rfl
  i0 := by kernel_rfl
  t3 := Try.underlying3
  a3 := fun w => by kernel_rfl
  z3 := fun w => by kernel_rfl
  v3 := fun w => by kernel_rfl
  i3 := by kernel_rfl
  t4 := Try.underlying4
  a4 := fun w => by kernel_rfl
  z4 := fun w => by kernel_rfl
  v4 := fun w => by kernel_rfl
  i4 := by kernel_rfl
  t5 := Try.underlying5
  a5 := fun w => by kernel_rfl
  z5 := fun w => by kernel_rfl
  v5 := fun w => by kernel_rfl
  i5 := by kernel_rfl
  t9 := Try.underlying9
  a9 := fun w => by kernel_rfl
  z9 := fun w => by kernel_rfl
  v9 := fun w => by kernel_rfl
  i9 := by kernel_rfl
  t37 := Try.underlying113
  a37 := fun w => by kernel_rfl
  z37 := fun w => by kernel_rfl
  v37 := fun w => by kernel_rfl
  i37 := by kernel_rfl
  t47 := by kernel_rfl
  a47 := fun w => by kernel_rfl
  z47 := fun w => by kernel_rfl
  v47 := fun w => by kernel_rfl
  i47 := by kernel_rfl }
theorem clone160 (s : ByteArray) (w : World) (h : s.size ≤ 281474976710656) : Calls Try.prog 68 #[.string s] w fun e w' => e = .returned (.string s) ∧ Below w.heap.size w w' :=
  AnyPu.stringslite_Clone cloneLaid s w h
set_option maxHeartbeats 400000 in
theorem sclone_any (s : ByteArray) (w : World) (h : s.size ≤ 281474976710656) : Calls Try.prog 58 #[.string s] w fun e w' => e = .returned (.string s) ∧ Below w.heap.size w w' := by
  have H57 := hid (clone160 s w h)
  go_enter Try.func58, Try.ntmps58
  go_wp2_with (go_at_call 68; refine H57.out.mono ?_; rintro e w1 ⟨rfl, hb1⟩)
  go_ret
  exact ⟨rfl, hb1⟩
theorem take_at (s : ByteArray) (k : Nat) (h : k < s.size) : s.data.toList.take (k + 1) = s.data.toList.take k ++ [s[k]] := by
  rw [List.take_succ_eq_append_getElem (by simpa using h)]; rfl

set_option maxHeartbeats 800000 in
theorem isOffset_any (n : Int) (w : World) : Calls Try.prog 85 #[.int .i64 n] w fun e w' => e = .returned (.bool (offB n)) ∧ w = w' := by
  go_enter Try.func85, Try.ntmps85
  go_wp2
  all_goals
    go_ret
    refine ⟨ret_bool ?_, rfl⟩
    rw [Bool.eq_iff_iff]
    simp [offB]
    try omega
set_option maxHeartbeats 800000 in
theorem ofName_any (c : UInt8) (w : World) : Calls Try.prog 67 #[.int .u8 (c.toNat : Int)] w fun e w' => e = .returned (.bool (isOfB c)) ∧ w = w' := by
  have hc : (0 : Int) ≤ (c.toNat : Int) := by omega
  have HF : Hid (isOfB c = decide ((97 ≤ (c.toNat : Int) ∧ (c.toNat : Int) ≤ 122) ∨ (48 ≤ (c.toNat : Int) ∧ (c.toNat : Int) ≤ 57) ∨ (c.toNat : Int) = 45)) := by
    show _ = _
    unfold isOfB
    rw [Bool.eq_iff_iff]
    simp
    omega
  generalize isOfB c = B at *
  generalize (c.toNat : Int) = n at *
  go_enter Try.func67, Try.ntmps67
  go_wp2
  all_goals
    go_ret
    refine ⟨ret_bool ?_, rfl⟩
    rw [HF.out, Bool.eq_iff_iff]
    simp
    try omega
set_option maxHeartbeats 1600000 in
theorem isName_any (s : ByteArray) (w : World) (hs : s.size ≤ maxLen) : Calls Try.prog 55 #[.string s] w fun e w' => e = .returned (.bool (nameB s)) ∧ w = w' := by
  unfold maxLen at hs
  have H67 : Hid (∀ c W, Calls Try.prog 67 #[.int .u8 ((c : UInt8).toNat : Int)] W fun e w' => e = .returned (.bool (isOfB c)) ∧ W = w') := fun c W => ofName_any c W
  by_cases h1 : 1 ≤ s.size
  · by_cases h2 : s.size ≤ 32
    · have HF : Hid (nameB s = s.data.toList.all isOfB) := by show _ = _; unfold nameB; simp [h1, h2]
      generalize nameB s = B at *
      have h1' : ¬ (s.size : Int) < 1 := by omega
      have h2' : ¬ (32 : Int) < (s.size : Int) := by omega
      go_enter Try.func55, Try.ntmps55
      go_wp2_with fail
      go_loopg [14] s.size (fun kx s14 wr => ∃ k : Nat, k ≤ s.size ∧ s.size - k ≤ kx ∧ s14 = .int .i64 (k : Int) ∧ Hid ((s.data.toList.take k).all isOfB = true) ∧ wr = w)
      case atStart => exact ⟨0, Nat.zero_le _, by omega, rfl, by show _ = _; simp, rfl⟩
      case round =>
        obtain ⟨k, hk, hkx, rfl, HK, rfl⟩ := hrel
        by_cases hlt : k < s.size
        · have hlt' : (k : Int) < (s.size : Int) := by omega
          have HT : Hid ((s.data.toList.take (k + 1)).all isOfB = ((s.data.toList.take k).all isOfB && isOfB s[k])) := by
            show _ = _
            rw [take_at s k hlt, List.all_append]
            simp
          have HM : Hid (isOfB s[k] = false → s.data.toList.all isOfB = false) := fun h => by
            rw [List.all_eq_false]
            exact ⟨s[k], by simp [ByteArray.getElem_eq_getElem_data], by simp [h]⟩
          cases hc : isOfB s[k] with
          | false =>
            have HM2 := hid (HM.out hc)
            have HX := hid (H67.out s[k])
            rw [hc] at HX
            clear HM HT hc
            go_wp2_with fail
            refine (HX.out _).mono ?_
            rintro e w1 ⟨rfl, rfl⟩
            go_wp2_with fail
            go_ret
            exact ⟨ret_bool (by rw [HF.out, HM2.out]), rfl⟩
          | true =>
            have HX := hid (H67.out s[k])
            rw [hc] at HX HT
            have HK2 : Hid ((s.data.toList.take (k + 1)).all isOfB = true) := by show _ = _; rw [HT.out, HK.out]; rfl
            clear HM HT hc
            go_wp2_with fail
            refine (HX.out _).mono ?_
            rintro e w1 ⟨rfl, rfl⟩
            go_wp2_with fail
            go_roundg (s.size - (k + 1))
            case measure => omega
            case rel => exact ⟨k + 1, by omega, Nat.le_refl _, by go_num, HK2.out, rfl⟩
        · have hlt' : ¬ (k : Int) < (s.size : Int) := by omega
          go_wp2_with fail
          go_ret
          have hn := HK.out
          rw [List.take_of_length_le (by simp; omega)] at hn
          exact ⟨ret_bool (by rw [HF.out, hn]), rfl⟩
    · have HF : Hid (nameB s = false) := by show _ = _; unfold nameB; simp [h2]
      have h1' : ¬ (s.size : Int) < 1 := by omega
      have h2' : (32 : Int) < (s.size : Int) := by omega
      go_enter Try.func55, Try.ntmps55
      go_wp2_with fail
      go_ret
      exact ⟨ret_bool HF.out.symm, rfl⟩
  · have HF : Hid (nameB s = false) := by show _ = _; unfold nameB; simp [h1]
    have h1' : (s.size : Int) < 1 := by omega
    go_enter Try.func55, Try.ntmps55
    go_wp2_with fail
    go_ret
    exact ⟨ret_bool HF.out.symm, rfl⟩
set_option maxHeartbeats 1600000 in
theorem isRising_any {w : World} {v : Value} {l : List Int} (h : IL w v l) : Calls Try.prog 56 #[v] w fun e w' => e = .returned (.bool (riseB 0 l)) ∧ w = w' := by
  obtain ⟨⟨a, cap, rfl, hcap, hcm, hnn, hat⟩, hok, hfew⟩ := h
  have HA := hid hat
  have HOK := hid hok
  have hlen : l.length ≤ 9223372036854775807 := by omega
  clear hat hok hnn hcap hcm
  go_enter Try.func56, Try.ntmps56
  go_wp2_with fail
  go_loopg [3, 5, 8] l.length (fun kx s3 s5 s8 wr => ∃ k : Nat, k ≤ l.length ∧ l.length - k ≤ kx ∧ s8 = .int .i64 (k : Int) ∧ (∃ z : Int, s3 = .int .i64 z ∧ I64 z ∧ Hid (riseB 0 l = riseB z (l.drop k))) ∧ wr = w)
  case atStart => exact ⟨0, Nat.zero_le _, by omega, rfl, ⟨0, rfl, by unfold I64; omega, rfl⟩, rfl⟩
  case round =>
    obtain ⟨k, hk, hkx, rfl, ⟨z, rfl, hz, HR⟩, rfl⟩ := hrel
    by_cases hlt : k < l.length
    · obtain ⟨b, off, rfl, hb, hc⟩ := HA.out (by intro e; rw [e] at hlt; simp at hlt)
      have hck := hc k hlt
      have hok := HOK.out l[k] (by simp)
      have HD : Hid (riseB z (l.drop k) = (decide (z < l[k] ∧ l[k] ≤ 16) && riseB l[k] (l.drop (k + 1)))) := by
        show _ = _
        rw [List.drop_eq_getElem_cons hlt]
        rfl
      have hlt' : (k : Int) < (l.length : Int) := by omega
      generalize l[k] = y at *
      clear hc
      by_cases h1 : y ≤ z
      · have HX : Hid (riseB 0 l = false) := by show _ = _; rw [HR.out, HD.out]; simp; omega
        go_wp2_with fail
        go_ret
        exact ⟨ret_bool HX.out.symm, rfl⟩
      · by_cases h2 : 16 < y
        · have HX : Hid (riseB 0 l = false) := by show _ = _; rw [HR.out, HD.out]; simp; omega
          go_wp2_with fail
          go_ret
          exact ⟨ret_bool HX.out.symm, rfl⟩
        · have HX : Hid (riseB 0 l = riseB y (l.drop (k + 1))) := by show _ = _; rw [HR.out, HD.out]; simp; omega
          have HY := hid hok
          go_wp2_with fail
          go_roundg (l.length - (k + 1))
          case measure => omega
          case rel => exact ⟨k + 1, by omega, Nat.le_refl _, by go_num, ⟨y, rfl, HY.out, HX.out⟩, rfl⟩
    · have hlt' : ¬ (k : Int) < (l.length : Int) := by omega
      go_wp2_with fail
      go_ret
      have hr := HR.out
      rw [List.drop_eq_nil_of_le (by omega)] at hr
      exact ⟨ret_bool hr.symm, rfl⟩
/-- What a kind of record does. -/
def kindF (k : Int) : Nat := if k = 1 then 38 else if k = 2 ∨ k = 3 ∨ k = 4 ∨ k = 6 then 39 else if k = 5 then 40 else 41
def oneF (k : Int) : Nat := if k = 2 then 60 else if k = 3 then 61 else if k = 6 then 62 else 63
set_option maxHeartbeats 1600000 in
theorem kind_any (k : Int) (w : World) : Calls Try.prog 24 #[.int .i64 k] w fun e w' => e = .returned (.func (.func (kindF k)) #[] #[]) ∧ w = w' := by
  have HF : Hid (∀ n, kindF k = n → (Ending.returned (.func (.func n) #[] #[]) = .returned (.func (.func (kindF k)) #[] #[]))) := fun n h => by rw [h]
  by_cases h1 : k = 1
  · subst h1; go_enter Try.func24, Try.ntmps24; go_wp2_with fail; go_ret; exact ⟨HF.out _ rfl, rfl⟩
  by_cases h2 : k = 2
  · subst h2; go_enter Try.func24, Try.ntmps24; go_wp2_with fail; go_ret; exact ⟨HF.out _ rfl, rfl⟩
  by_cases h3 : k = 3
  · subst h3; go_enter Try.func24, Try.ntmps24; go_wp2_with fail; go_ret; exact ⟨HF.out _ rfl, rfl⟩
  by_cases h4 : k = 4
  · subst h4; go_enter Try.func24, Try.ntmps24; go_wp2_with fail; go_ret; exact ⟨HF.out _ rfl, rfl⟩
  by_cases h6 : k = 6
  · subst h6; go_enter Try.func24, Try.ntmps24; go_wp2_with fail; go_ret; exact ⟨HF.out _ rfl, rfl⟩
  by_cases h5 : k = 5
  · subst h5; go_enter Try.func24, Try.ntmps24; go_wp2_with fail; go_ret; exact ⟨HF.out _ rfl, rfl⟩
  have HN : Hid (kindF k = 41) := by show _ = _; unfold kindF; simp [h1, h2, h3, h4, h5, h6]
  go_enter Try.func24, Try.ntmps24
  go_wp2_with fail
  go_ret
  exact ⟨HF.out _ HN.out, rfl⟩
set_option maxHeartbeats 1600000 in
theorem oneKind_any (k : Int) (w : World) : Calls Try.prog 50 #[.int .i64 k] w fun e w' => e = .returned (.func (.func (oneF k)) #[] #[]) ∧ w = w' := by
  have HF : Hid (∀ n, oneF k = n → (Ending.returned (.func (.func n) #[] #[]) = .returned (.func (.func (oneF k)) #[] #[]))) := fun n h => by rw [h]
  by_cases h2 : k = 2
  · subst h2; go_enter Try.func50, Try.ntmps50; go_wp2_with fail; go_ret; exact ⟨HF.out _ rfl, rfl⟩
  by_cases h3 : k = 3
  · subst h3; go_enter Try.func50, Try.ntmps50; go_wp2_with fail; go_ret; exact ⟨HF.out _ rfl, rfl⟩
  by_cases h6 : k = 6
  · subst h6; go_enter Try.func50, Try.ntmps50; go_wp2_with fail; go_ret; exact ⟨HF.out _ rfl, rfl⟩
  have HN : Hid (oneF k = 63) := by show _ = _; unfold oneF; simp [h2, h3, h6]
  go_enter Try.func50, Try.ntmps50
  go_wp2_with fail
  go_ret
  exact ⟨HF.out _ HN.out, rfl⟩
end Go.Proofs.Ytdnpbhijjmlecaa

/- sameList, pick. -/
namespace Go.Proofs.Ytdnpbhijjmlecaa
open Go.RowKit Go.Maps
set_option linter.unusedSimpArgs false
set_option linter.unusedVariables false
set_option maxRecDepth 100000

theorem below_drewN {B : Nat} {w w' : World} (h : Below B w w') (n : Nat) : Below B w (w'.drewN n) := by
  induction n with
  | zero => exact h
  | succ n ih => exact ih.drew
theorem take_eq_snoc {l m : List Int} {k : Nat} (h : l.take k = m.take k) (hl : k < l.length) (hm : k < m.length) (he : l[k] = m[k]) : l.take (k + 1) = m.take (k + 1) := by
  rw [List.take_succ_eq_append_getElem hl, List.take_succ_eq_append_getElem hm, h, he]
set_option maxHeartbeats 3200000 in
theorem sameList_any {w : World} {v u : Value} {l m : List Int} (h : IL w v l) (hm : IL w u m) : Calls Try.prog 17 #[v, u] w fun e w' => e = .returned (.bool (decide (l = m))) ∧ Below w.heap.size w w' := by
  obtain ⟨⟨a, cap, rfl, hcap, hcm, hnn, hat⟩, hok, hfew⟩ := h
  obtain ⟨⟨ua, ucap, rfl, _, _, _, uat⟩, uok, ufew⟩ := hm
  have HA := hid hat
  have HU := hid uat
  have HOK := hid hok
  have HUK := hid uok
  clear hat uat hok uok hnn hcap hcm
  by_cases hl : l.length = m.length
  · have HL := hid hl
    have hmlen : ¬ ((l.length : Int) ≠ (m.length : Int)) := by omega
    rw [← hl]
    clear hl
    go_enter Try.func17, Try.ntmps17
    go_wp2_with fail
    go_loopg [5] l.length (fun kx s5 wr => ∃ k : Nat, k ≤ l.length ∧ l.length - k ≤ kx ∧ s5 = .int .i64 (k : Int) ∧ Hid (l.take k = m.take k ∧ Below w.heap.size w wr))
    case atStart => exact ⟨0, Nat.zero_le _, by omega, rfl, by simp, Below.refl _ _⟩
    case round =>
      obtain ⟨k, hk, hkx, rfl, HR⟩ := hrel
      by_cases hlt : k < l.length
      · have hltm : k < m.length := by have := HL.out; omega
        obtain ⟨b, off, rfl, hb, hc⟩ := HA.out (by intro e; rw [e] at hlt; simp at hlt)
        obtain ⟨b2, off2, rfl, hb2, hc2⟩ := HU.out (by intro e; rw [e] at hltm; simp at hltm)
        have hck := kept_cell HR.out.2 (hc k hlt)
        have hck2 := kept_cell HR.out.2 (hc2 k hltm)
        have hok := HOK.out l[k] (by simp)
        have huk := HUK.out m[k] (by simp)
        have HT := hid (take_eq_snoc HR.out.1 hlt hltm)
        have HE : Hid (l = m → l[k] = m[k]) := fun e => by subst e; rfl
        have hlt' : (k : Int) < (l.length : Int) := by omega
        have hk0 : (0 : Int) ≤ (k : Int) := by omega
        generalize l[k] = y at *
        generalize m[k] = z at *
        clear hc hc2
        by_cases he : y = z
        · have HTT := hid (HT.out he)
          subst he
          go_wp2_with fail
          go_quiet (fail)
          go_wp2_with fail
          go_roundg (l.length - (k + 1))
          case measure => omega
          case rel => exact ⟨k + 1, by omega, Nat.le_refl _, by go_num, HTT.out, by first | exact HR.out.2 | exact HR.out.2.drew | exact below_drewN HR.out.2 _⟩
        · have HF : Hid (decide (l = m) = false) := by show _ = _; simp; intro e; exact he (HE.out e)
          go_wp2_with fail
          go_quiet (fail)
          go_wp2_with fail
          go_ret
          exact ⟨by rw [HF.out]; rfl, by first | exact HR.out.2 | exact HR.out.2.drew | exact below_drewN HR.out.2 _⟩
      · have hlt' : ¬ (k : Int) < (l.length : Int) := by omega
        go_wp2_with fail
        go_ret
        have hr := HR.out
        rw [List.take_of_length_le (by omega), List.take_of_length_le (by have := HL.out; omega)] at hr
        exact ⟨by rw [hr.1]; simp, hr.2⟩
  · have HF : Hid (decide (l = m) = false) := by show _ = _; simp; intro e; exact hl (by rw [e])
    have hmlen : ((l.length : Int) ≠ (m.length : Int)) := by omega
    go_enter Try.func17, Try.ntmps17
    go_wp2_with fail
    go_ret
    exact ⟨by rw [HF.out]; rfl, Below.refl _ _⟩

def pickI (c n : Int) : Int := if c < 0 then (-(c + 1)) % n else c % n
theorem pickI_range (c n : Int) (hn : 1 ≤ n) : 0 ≤ pickI c n ∧ pickI c n < n := by
  unfold pickI
  split
  · exact ⟨Int.emod_nonneg _ (by omega), Int.emod_lt_of_pos _ (by omega)⟩
  · exact ⟨Int.emod_nonneg _ (by omega), Int.emod_lt_of_pos _ (by omega)⟩
theorem neg_tmod (c n : Int) : (-(c + 1)).tmod n = -((c + 1).tmod n) := by rw [Int.neg_tmod]
set_option maxHeartbeats 400000 in
theorem pick_any (c n : Int) (w : World) (hc : I64 c) (hn : 1 ≤ n) (hn2 : n ≤ 1000000) : Calls Try.prog 23 #[.int .i64 c, .int .i64 n] w fun e w' => e = .returned (.int .i64 (pickI c n)) ∧ w = w' := by
  unfold I64 at hc
  obtain ⟨hc1, hc2⟩ := hc
  by_cases h0 : c < 0
  · obtain ⟨d, hd⟩ : ∃ d, -(c + 1) = d := ⟨_, rfl⟩
    have HF : Hid (pickI c n = d % n) := by show _ = _; unfold pickI; rw [if_pos h0, hd]
    have hd0 : 0 ≤ d := by omega
    have hd1 : d ≤ 9223372036854775807 := by omega
    have hnz : n ≠ 0 := by omega
    go_enter Try.func23, Try.ntmps23
    go_wp2
    go_ret
    refine ⟨?_, rfl⟩
    rw [HF.out]
    refine ret_int ?_
    first | rfl | (rw [← neg_tmod, Int.tmod_eq_emod_of_nonneg (by omega)]) | (rw [Int.tmod_eq_emod_of_nonneg (by omega)])
  · have HF : Hid (pickI c n = c % n) := by show _ = _; unfold pickI; rw [if_neg h0]
    have hnz : n ≠ 0 := by omega
    have h0' : 0 ≤ c := by omega
    go_enter Try.func23, Try.ntmps23
    go_wp2
    go_ret
    refine ⟨?_, rfl⟩
    rw [HF.out]
    refine ret_int ?_
    first | rfl | (rw [Int.tmod_eq_emod_of_nonneg (by omega)])

/-- A list that was just written out. -/
theorem il_lit {W : World} {g : Nat} (l : List Int) (hg : W.heap[g]? = some (.cells (vals l).toArray 3)) (hok : ∀ x ∈ l, I64 x) (hf : l.length ≤ 1000) : IL W (.slice (some ⟨g, 0, none⟩) l.length l.length) l := by
  refine ⟨⟨some ⟨g, 0, none⟩, l.length, rfl, Nat.le_refl _, by unfold maxLen; omega, (fun h => by cases h), fun _ => ⟨g, 0, rfl, ?_, fun i hi => ?_⟩⟩, hok, by omega⟩
  · rcases Nat.lt_or_ge g W.heap.size with h1 | h1
    · exact h1
    · rw [Array.getElem?_eq_none h1] at hg; cases hg
  · exact cell_blk hg _ _ (by simp [vals, hi])

theorem sm64 (x : Int) (h : 0 ≤ x ∧ x ≤ 1000) : I64 x := by unfold I64; omega
theorem lit64 (l : List Int) (h : (l.all fun x => decide (0 ≤ x ∧ x ≤ 1000)) = true) : ∀ x ∈ l, I64 x := fun x hx => sm64 x (of_decide_eq_true (List.all_eq_true.1 h x hx))
end Go.Proofs.Ytdnpbhijjmlecaa

/- A record that came in and what is told, in two boxes; why a member's record is refused. -/
namespace Go.Proofs.Ytdnpbhijjmlecaa
open Go.RowKit Go.Maps
set_option maxRecDepth 100000
set_option linter.unusedSimpArgs false
set_option linter.unusedVariables false

def recV (m : Rc) (lv : Value) : Value := .agg #[.int .i64 m.kind, .int .i64 m.a, .int .i64 m.b, .int .i64 m.c, .int .i64 m.d, .string m.name, .string m.text, lv]
def recA (m : Rc) (lv : Value) : Array Value := #[.int .i64 m.kind, .int .i64 m.a, .int .i64 m.b, .int .i64 m.c, .int .i64 m.d, .string m.name, .string m.text, lv]
def zTd : Array Value := #[.int .i64 0, .int .i64 0, .int .i64 0, .int .i64 0, .slice none 0 0]
/-- The record's box and the box of what is told. -/
structure TB (Z : Nat → Prop) (w W : World) (cs zs : Array Value) : Prop where
  x : W.heap[w.heap.size]? = some (.cells cs 32)
  z : W.heap[w.heap.size + 1]? = some (.cells zs 36)
  k : Keeps Z w W
  s : w.heap.size + 2 ≤ W.heap.size
theorem tb_new (Z : Nat → Prop) (w : World) (cs zs : Array Value) : TB Z w ((w.alloc (.cells cs 32)).alloc (.cells zs 36)) cs zs := by
  refine ⟨?_, ?_, Keeps.of_below (((Below.refl _ _).alloc (Nat.le_refl _) _).alloc (by simp) _), by simp⟩
  · rw [Below.heap_alloc _ _ _ (by simp)]; exact heap_alloc_new _ _
  · have := heap_alloc_new (w.alloc (.cells cs 32)) (.cells zs 36)
    rw [show (w.alloc (.cells cs 32)).heap.size = w.heap.size + 1 by simp] at this
    exact this
theorem TB.next {Z T : Nat → Prop} {w W W' : World} {cs zs : Array Value} (h : TB Z w W cs zs) (hk : Keeps T W W') (ht : ∀ k, T k → Z k ∨ w.heap.size ≤ k) (hx : ¬ T w.heap.size) (hz : ¬ T (w.heap.size + 1)) : TB Z w W' cs zs := by
  have := h.s
  exact ⟨(hk.block _ (by omega) hx).trans h.x, (hk.block _ (by omega) hz).trans h.z, h.k.trans hk ht, Nat.le_trans this hk.size⟩
theorem TB.under {Z : Nat → Prop} {w W W' : World} {cs zs : Array Value} (h : TB Z w W cs zs) (hb : Below W.heap.size W W') : TB Z w W' cs zs := by
  have := h.s
  exact ⟨(hb.block _ (by omega)).trans h.x, (hb.block _ (by omega)).trans h.z, h.k.trans (Keeps.of_below (S := Z) hb) (fun _ k => .inl k), Nat.le_trans this hb.size⟩
theorem TB.setz {Z : Nat → Prop} {w W : World} {cs zs : Array Value} (h : TB Z w W cs zs) (j : Nat) (u : Value) : TB Z w (W.setCell ⟨w.heap.size + 1, j, none⟩ u) cs (zs.setIfInBounds j u) :=
  ⟨(Below.heap_setCell _ _ _ _ (by simp)).trans h.x, set_box h.z, h.k.trans (Keeps.set (S := fun k => k = w.heap.size + 1) W rfl u) (fun k hk => .inr (by omega)), by have := h.s; simpa using this⟩
def five (W : World) (q : Nat) (v0 v1 v2 v3 v4 : Value) : World := ((((W.setCell ⟨q, 0, none⟩ v0).setCell ⟨q, 1, none⟩ v1).setCell ⟨q, 2, none⟩ v2).setCell ⟨q, 3, none⟩ v3).setCell ⟨q, 4, none⟩ v4
theorem TB.five {Z : Nat → Prop} {w W : World} {cs zs : Array Value} (h : TB Z w W cs zs) (hz : zs.size = 5) (v0 v1 v2 v3 v4 : Value) : TB Z w (five W (w.heap.size + 1) v0 v1 v2 v3 v4) cs #[v0, v1, v2, v3, v4] := by
  obtain ⟨l⟩ := zs
  match l, hz, h with
  | [z0, z1, z2, z3, z4], _, h =>
    have h0 : TB Z w _ cs #[v0, z1, z2, z3, z4] := h.setz 0 v0
    have h1 : TB Z w _ cs #[v0, v1, z2, z3, z4] := h0.setz 1 v1
    have h2 : TB Z w _ cs #[v0, v1, v2, z3, z4] := h1.setz 2 v2
    have h3 : TB Z w _ cs #[v0, v1, v2, v3, z4] := h2.setz 3 v3
    have h4 : TB Z w _ cs #[v0, v1, v2, v3, v4] := h3.setz 4 v4
    exact h4
theorem five_keeps (W : World) (q : Nat) (v0 v1 v2 v3 v4 : Value) : Keeps (fun k => k = q) W (five W q v0 v1 v2 v3 v4) := by
  have e := fun (W : World) (j : Nat) (u : Value) => Keeps.set (S := fun k => k = q) W (a := ⟨q, j, none⟩) rfl u
  unfold Go.Proofs.Ytdnpbhijjmlecaa.five
  exact (((((e _ 0 v0).trans (e _ 1 v1) (fun _ k => .inl k)).trans (e _ 2 v2) (fun _ k => .inl k)).trans (e _ 3 v3) (fun _ k => .inl k)).trans (e _ 4 v4) (fun _ k => .inl k))
theorem Keeps.base {w w' : World} (h : Keeps (fun _ => False) w w') : Below w.heap.size w w' := ⟨h.os, h.tape, h.output, h.size, fun k hk => h.block k hk (fun h => h)⟩

set_option maxHeartbeats 1600000 in
theorem memE_any {w : World} {q : Nat} {vm vp vo : Value} {x : Gr} (h : GrR w q vm vp vo x) (hf : x.mem.length ≤ 1000) (m : Rc) (la : Option Addr) (ln lc : Nat) :
    Calls Try.prog 73 #[.pointer (some ⟨q, 0, none⟩), recV m (.slice la ln lc)] w fun e w' => e = .returned (.int .i64 (memE x m)) ∧ Below w.heap.size w w' := by
  have hbA : Below w.heap.size w (w.alloc (.cells (recA m (.slice la ln lc)) 32)) := (Below.refl _ _).alloc (Nat.le_refl _) _
  have HH := hid (has_any (h.under hbA) hf m.a)
  have HBA := hid hbA
  have hB := heap_alloc_new w (.cells (recA m (.slice la ln lc)) 32)
  have HC : Hid (∀ V, Below (w.alloc (.cells (recA m (.slice la ln lc)) 32)).heap.size (w.alloc (.cells (recA m (.slice la ln lc)) 32)) V → V.cell? ⟨w.heap.size, 2, none⟩ = some (.int .i64 m.b) ∧ V.cell? ⟨q, 0, none⟩ = some (.int .i64 x.gen)) := fun V hV => ⟨kept_cell hV (cell_blk hB 2 _ rfl), ((h.under hbA).under hV).c0⟩
  have hq := h.lt
  have a1 := cell_blk hB 1 _ rfl
  have HF : Hid (memE x m = if hasM x m.a = false then 17 else if m.b ≠ x.gen then 18 else 0) := rfl
  generalize memE x m = E at *
  unfold recV recA at *
  clear h hbA hB
  cases hM : hasM x m.a with
  | false =>
    rw [hM] at HH HF
    rw [if_pos rfl] at HF
    clear hM
    go_enter Try.func73, Try.ntmps73
    go_wp2_with fail
    refine HH.out.mono ?_
    rintro e w1 ⟨rfl, hb1⟩
    go_wp2_with fail
    go_ret
    exact ⟨ret_int HF.out.symm, HBA.out.trans (hb1.mono HBA.out.size)⟩
  | true =>
    rw [hM] at HH HF
    rw [if_neg (by simp)] at HF
    clear hM
    go_enter Try.func73, Try.ntmps73
    go_wp2_with fail
    refine HH.out.mono ?_
    rintro e w1 ⟨rfl, hb1⟩
    obtain ⟨b2, c0⟩ := HC.out w1 hb1
    have HB1 := hid (HBA.out.trans (hb1.mono HBA.out.size))
    clear hb1 HC a1
    by_cases hg : m.b = x.gen
    · rw [if_neg (by simpa using hg)] at HF
      rw [hg] at b2
      clear hg
      go_wp2_with fail
      go_quiet (fail)
      go_wp2_with fail
      go_ret
      exact ⟨ret_int HF.out.symm, by first | exact HB1.out | exact HB1.out.drew | exact below_drewN HB1.out _⟩
    · rw [if_pos hg] at HF
      generalize x.gen = gg at *
      generalize m.b = bb at *
      go_wp2_with fail
      go_quiet (fail)
      go_wp2_with fail
      go_ret
      exact ⟨ret_int HF.out.symm, by first | exact HB1.out | exact HB1.out.drew | exact below_drewN HB1.out _⟩
end Go.Proofs.Ytdnpbhijjmlecaa

