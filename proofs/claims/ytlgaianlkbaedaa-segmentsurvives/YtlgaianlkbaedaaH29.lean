/- Safe. -/
import Derived.Test.YtlgaianlkbaedaaH26
namespace Go.Proofs.Ytlgaianlkbaedaa
open Go.RowKit Go.Maps Go.Sort
set_option maxRecDepth 100000
set_option linter.unusedSimpArgs false
set_option linter.unusedVariables false

/-- Where seek ends. -/
def SeekAt (P : Mk → Bool) (base : Nat) (ix : List Mk) (l : List UInt8) (R : Mk × List UInt8) : Prop :=
  ∃ (r : Nat) (fr : Mk), r ≤ ix.length ∧ (r = 0 ∧ fr = ⟨base, 0, 0⟩ ∨ ix[r - 1]? = some fr ∧ 0 < r ∧ P fr = false) ∧ (∀ x, ix[r]? = some x → P x = true) ∧ walkL P (l.length + 1) fr (l.drop fr.at_) = R
theorem SeekPost.elim {P : Mk → Bool} {base : Nat} {ix : List Mk} {l : List UInt8} {e : Ending} (h : SeekPost P base ix l e) : ∃ R, SeekAt P base ix l R ∧ e = .returned (.agg #[.int .i64 (R.1.base : Int), .int .i64 (R.1.at_ : Int), .int .i64 (R.1.nth : Int), .string (strOf R.2)]) := by
  obtain ⟨r, fr, h1, h2, h3, h4⟩ := h
  exact ⟨_, ⟨r, fr, h1, h2, h3, rfl⟩, h4⟩
theorem field_83 (u0 u1 u2 u3 : Value) (W : World) : Sem.run Try.prog (Instr.field 83 (.agg #[u0, u1, u2, u3]) 0) W = .ok (.agg #[u0, u1, u2]) W := rfl
theorem field_61 (u0 u1 u2 : Value) (W : World) : Sem.run Try.prog (Instr.field 61 (.agg #[u0, u1, u2]) 0) W = .ok u0 W := rfl
theorem SD.synced {w W : World} {B q a base name m ix size fs} (h : SD w B q a base name m ix size fs) (hb : Below w.heap.size w W) (hn : name.size ≤ maxLen) : Calls Try.prog 38 #[.pointer (some ⟨a, 0, none⟩), .string name] W fun e w' => e = .returned (.int .i64 (asafe fs name.data.toList : Int)) ∧ w' = W := by
  obtain ⟨U, S, v, h1, h2, h3, h4⟩ := h
  exact syncedA (h2.under hb) name hn
set_option maxHeartbeats 3200000 in
theorem ssafe_no {w : World} {B q a base name m ix size fs} (h : SD w B q a base name m ix size fs) (hn : name.size ≤ maxLen) (hP : decide ((asafe fs name.data.toList : Int) < (m.at_ : Int)) = false) :
    Calls Try.prog 17 #[.pointer (some ⟨q, 0, none⟩)] w fun e w' => e = .returned (.int .i64 (m.base : Int)) ∧ Below w.heap.size w w' := by
  have H32 : Hid (∀ W, Below w.heap.size w W → Calls Try.prog 32 #[.pointer (some ⟨q, 0, none⟩)] W fun e w' => e = .returned (.pointer (some ⟨a, 0, none⟩)) ∧ w' = W) := fun W hb => h.disk hb
  have H38 : Hid (∀ W, Below w.heap.size w W → Calls Try.prog 38 #[.pointer (some ⟨a, 0, none⟩), .string name] W fun e w' => e = .returned (.int .i64 (asafe fs name.data.toList : Int)) ∧ w' = W) := fun W hb => h.synced hb hn
  have HSD := hid h
  have kn := h.name (Below.refl _ _)
  clear h
  go_enter Try.func17, Try.ntmps17
  go_wp2_with fail
  go_region_held3 (fun w' => w'.cell? ⟨q, 1, none⟩ = some (.string name)) (go_keep)
    (first
    | (go_at_call 32; refine (H32.out _ (by repeat (first | exact Below.refl _ _ | apply Below.drew | refine Below.alloc ?_ (by simp) _))).mono ?_; rintro e w0 ⟨rfl, rfl⟩)
    | (go_at_call 38; refine (H38.out _ (by repeat (first | exact Below.refl _ _ | apply Below.drew | refine Below.alloc ?_ (by simp) _))).mono ?_; rintro e w1 ⟨rfl, rfl⟩)
    | fail)
  all_goals
    go_wp2_with fail
    have hbw : Below w.heap.size w (w.alloc (.cells #[.int .i64 (asafe fs name.data.toList : Int)] 3)).drew := ((Below.refl _ _).alloc (Nat.le_refl _) _).drew
    refine (seek_no_40 (HSD.out.under hbw) w.heap.size (asafe fs name.data.toList : Int) (cell_at (heap_alloc_new w _) rfl) hP).mono ?_
    rintro e w4 ⟨rfl, hb4⟩
    have hf1 := field_83
    have hf2 := field_61
    go_wp2_with fail
    go_ret
    exact ⟨rfl, hbw.trans (hb4.mono hbw.size)⟩
set_option maxHeartbeats 3200000 in
theorem ssafe_yes {w : World} {B q a base name m ix size fs} (h : SD w B q a base name m ix size fs) (hn : name.size ≤ maxLen) (hP : decide ((asafe fs name.data.toList : Int) < (m.at_ : Int)) = true) (hbase : base ≤ 1000000000) (hlen : ix.length ≤ 5000) {l : List UInt8} (hl : l = abytes fs name.data.toList) (hix : ∀ x ∈ ix, x.base ≤ 1000000000 ∧ x.at_ ≤ l.length ∧ x.nth ≤ 4096) :
    Calls Try.prog 17 #[.pointer (some ⟨q, 0, none⟩)] w fun e w' => (∃ R, SeekAt (fun x => decide ((asafe fs name.data.toList : Int) < (x.at_ : Int))) base ix l R ∧ e = .returned (.int .i64 (R.1.base : Int))) ∧ Below w.heap.size w w' := by
  have HL := hid hl
  clear hl
  have H32 : Hid (∀ W, Below w.heap.size w W → Calls Try.prog 32 #[.pointer (some ⟨q, 0, none⟩)] W fun e w' => e = .returned (.pointer (some ⟨a, 0, none⟩)) ∧ w' = W) := fun W hb => h.disk hb
  have H38 : Hid (∀ W, Below w.heap.size w W → Calls Try.prog 38 #[.pointer (some ⟨a, 0, none⟩), .string name] W fun e w' => e = .returned (.int .i64 (asafe fs name.data.toList : Int)) ∧ w' = W) := fun W hb => h.synced hb hn
  have HSD := hid h
  have kn := h.name (Below.refl _ _)
  clear h
  go_enter Try.func17, Try.ntmps17
  go_wp2_with fail
  go_region_held3 (fun w' => w'.cell? ⟨q, 1, none⟩ = some (.string name)) (go_keep)
    (first
    | (go_at_call 32; refine (H32.out _ (by repeat (first | exact Below.refl _ _ | apply Below.drew | refine Below.alloc ?_ (by simp) _))).mono ?_; rintro e w0 ⟨rfl, rfl⟩)
    | (go_at_call 38; refine (H38.out _ (by repeat (first | exact Below.refl _ _ | apply Below.drew | refine Below.alloc ?_ (by simp) _))).mono ?_; rintro e w1 ⟨rfl, rfl⟩)
    | fail)
  all_goals
    go_wp2_with fail
    have hbw : Below w.heap.size w (w.alloc (.cells #[.int .i64 (asafe fs name.data.toList : Int)] 3)).drew := ((Below.refl _ _).alloc (Nat.le_refl _) _).drew
    refine (seek_yes_40 (HSD.out.under hbw) hn w.heap.size (asafe fs name.data.toList : Int) (cell_at (heap_alloc_new w _) rfl) hP hbase hlen HL.out hix).mono ?_
    rintro e w4 ⟨hp4, hb4⟩
    obtain ⟨R, HRA, rfl⟩ := hp4.elim
    have HR := hid HRA
    clear HRA hp4
    have hf1 := field_83
    have hf2 := field_61
    go_wp2_with fail
    go_ret
    exact ⟨⟨R, HR.out, rfl⟩, hbw.trans (hb4.mono hbw.size)⟩
end Go.Proofs.Ytlgaianlkbaedaa

/- What Cut asks; the index cut. -/
namespace Go.Proofs.Ytlgaianlkbaedaa
open Go.RowKit Go.Maps Go.Sort
set_option maxRecDepth 100000
set_option linter.unusedSimpArgs false
set_option linter.unusedVariables false

set_option maxHeartbeats 1600000 in
theorem cut2_any {w : World} {U q a base name m v} {ix : List Mk} (h : SegM w U q a base name m v ix) (hlen : ix.length ≤ 5000) (i : Nat) (x : Mk) (hx : ix[i]? = some x) (gs gt : Nat) (T : Int) (hgs : w.cell? ⟨gs, 0, none⟩ = some (.pointer (some ⟨q, 0, none⟩))) (hgt : w.cell? ⟨gt, 1, none⟩ = some (.int .i64 T)) :
    Calls Try.prog 46 #[.int .i64 (i : Int), .pointer (some ⟨gs, 0, none⟩), .pointer (some ⟨gt, 0, none⟩)] w fun en w' => en = .returned (.bool (decide (T ≤ (x.at_ : Int)))) ∧ Below w.heap.size w w' := by
  have hil : i < ix.length := (List.getElem?_eq_some_iff.1 hx).1
  obtain ⟨oa, cap, rfl, hcap, hcm, hoa⟩ := h.shape
  obtain ⟨g2, rfl⟩ := hoa (by omega)
  obtain ⟨r0, r1, r2⟩ := h.at_ i x hx
  obtain ⟨k0, k1, k2, k3, k4, k5, k6⟩ := h.c
  have hi2 : (i : Int) < (ix.length : Int) := by omega
  clear h hx hoa
  go_enter Try.func46, Try.ntmps46
  go_wp2_with fail
  try go_quiet (fail)
  try go_wp2_with fail
  go_ret
  exact ⟨rfl, by first | exact Below.refl _ _ | exact below_drewN (Below.refl _ _) _⟩
theorem flatM_take : ∀ (l : List Mk) (n : Nat), flatM (l.take n) = (flatM l).take (n * 3)
  | [], n => by simp [flatM]
  | x :: r, 0 => by simp [flatM]
  | x :: r, n + 1 => by
    rw [List.take_succ_cons]
    unfold flatM
    rw [flatM_take r n, show (n + 1) * 3 = (mcells x).length + n * 3 by simp [mcells]; omega, List.take_length_add_append]
/-- The index, cut. -/
theorem SegM.cutRow {w W : World} {U q a base name m oa cap} {ix : List Mk} (h : SegM w U q a base name m (.slice oa ix.length cap) ix) (hb : Below w.heap.size w W) (n : Nat) (hn : n ≤ ix.length) (e : Mk) : SegM ((((W.setCell ⟨q, 6, none⟩ (.slice oa n cap)).setCell ⟨q, 3, none⟩ (.int .i64 (e.base : Int))).setCell ⟨q, 4, none⟩ (.int .i64 (e.at_ : Int))).setCell ⟨q, 5, none⟩ (.int .i64 (e.nth : Int))) U q a base name e (.slice oa n cap) (ix.take n) ∧ Keeps U w ((((W.setCell ⟨q, 6, none⟩ (.slice oa n cap)).setCell ⟨q, 3, none⟩ (.int .i64 (e.base : Int))).setCell ⟨q, 4, none⟩ (.int .i64 (e.at_ : Int))).setCell ⟨q, 5, none⟩ (.int .i64 (e.nth : Int))) := by
  have hW := h.under hb
  have hoff := hW.off
  have h6 : SegM (W.setCell ⟨q, 6, none⟩ (.slice oa n cap)) U q a base name m (.slice oa n cap) (ix.take n) := by
    have hl : (ix.take n).length = n := by simp; omega
    have hrow := hW.row
    refine ⟨fun k hk => by rw [set_size]; exact hW.below k hk, hW.self, set_box hW.cells, ⟨by rw [flatM_length], ?_⟩, fun k hk => hW.rowU k (by cases oa <;> exact hk)⟩
    rcases hrow.2 with ⟨e0, hz⟩ | ⟨g, cap', cur, e0, hb0, hg, c1, c2, c3, c4⟩
    · have e1 : oa = none ∧ ix.length = 0 ∧ cap = 0 := by simpa using e0
      obtain ⟨rfl, hz0, rfl⟩ := e1
      left
      exact ⟨by rw [show n = 0 by omega], by rw [hl]; omega⟩
    · cases e0
      right
      refine ⟨g, cap, cur, by rw [hl], hb0, (Below.heap_setCell W ⟨q, 6, none⟩ _ g (fun e2 => hoff (by have e3 : g = q := e2; rw [e3]; rfl))).trans hg, by omega, c2, c3, ?_⟩
      rw [hl, flatM_take, ← c4, List.take_take, Nat.min_eq_left (by omega)]
  have hK : Keeps U w (W.setCell ⟨q, 6, none⟩ (.slice oa n cap)) := by
    refine ⟨hb.os, hb.tape, hb.output, by rw [set_size]; exact hb.size, fun k hk hU => ?_⟩
    rw [Below.heap_setCell W ⟨q, 6, none⟩ _ k (fun e2 => hU (by have e3 : k = q := e2; rw [e3]; exact h.self))]
    exact hb.block k hk
  exact ⟨h6.setEnd e h6.off, keeps_end hK h.self e⟩
end Go.Proofs.Ytlgaianlkbaedaa

