/- Two batches: are they the same? -/
import Derived.Test.YtocdlaoklagdoaaDoorRbatch
import Derived.Laws.StructEq
namespace Go.Proofs.YtocdlaoklagdoaaDoor
open Go.RowKit Go.Maps
set_option linter.unusedSimpArgs false
set_option linter.unusedVariables false
set_option maxRecDepth 100000

/-- A function tells whether P. -/
def Told (P : Prop) (w : World) (e : Ending) (w' : World) : Prop := ∃ r : Bool, e = .returned (.bool r) ∧ (r = true ↔ P) ∧ Below w.heap.size w w'
theorem Told.yes {P : Prop} {w w' : World} (h : P) (hb : Below w.heap.size w w') : Told P w (.returned (.bool true)) w' := ⟨true, rfl, by simp [h], hb⟩
theorem Told.no {P : Prop} {w w' : World} (h : ¬ P) (hb : Below w.heap.size w w') : Told P w (.returned (.bool false)) w' := ⟨false, rfl, by simp [h], hb⟩
theorem toList_ne {a b : ByteArray} (h : ¬ a = b) : ¬ a.toList = b.toList := fun e => h (by
  rw [Lib.toList_data, Lib.toList_data] at e
  exact ByteArray.ext (Array.toList_inj.1 e))
theorem strOf_inj {a b : List UInt8} (h : strOf a = strOf b) : a = b := by
  have := congrArg (fun s : ByteArray => s.data.toList) h
  simpa [strOf] using this
set_option maxHeartbeats 1000000 in
theorem neq65 (k v : ByteArray) (t : Int) (w : World) : (binOp .neq 65 (.agg #[.string k, .string v, .int .i64 t]) (.agg #[.string k, .string v, .int .i64 t])).run Tryd.prog w = .ok (.bool false) w := by
  rw [run_neq_struct, run_equalIn_agg w 9999 65 _ _ (by kernel_rfl) (by kernel_rfl)]
  simp [go_sem]
set_option maxHeartbeats 1000000 in
theorem neq65_not (k v k' v' : ByteArray) (t t' : Int) (h : ¬ (k = k' ∧ v = v' ∧ t = t')) (w : World) : (binOp .neq 65 (.agg #[.string k, .string v, .int .i64 t]) (.agg #[.string k', .string v', .int .i64 t'])).run Tryd.prog w = .ok (.bool true) w := by
  rw [run_neq_struct, run_equalIn_agg w 9999 65 _ _ (by kernel_rfl) (by kernel_rfl)]
  by_cases h1 : k = k'
  · subst h1
    by_cases h2 : v = v'
    · subst h2
      have h3 : t ≠ t' := fun e => h ⟨rfl, rfl, e⟩
      simp [go_sem, h3]
    · have h2' := toList_ne h2
      simp [go_sem, h2']
  · have h1' := toList_ne h1
    simp [go_sem, h1']

set_option maxHeartbeats 1600000 in
theorem batchEq_any {w : World} (x y : Bat) (s1 s2 : Option Addr) (c1 c2 : Nat) (h1 : Recs w (.slice s1 x.recs.length c1) x.recs) (h2 : Recs w (.slice s2 y.recs.length c2) y.recs) :
    Calls Tryd.prog 31 #[.agg #[.int .i64 x.base, .int .i64 x.epoch, .int .i64 x.pid, .int .i64 x.pidEpoch, .int .i64 x.seq, .slice s1 x.recs.length c1], .agg #[.int .i64 y.base, .int .i64 y.epoch, .int .i64 y.pid, .int .i64 y.pidEpoch, .int .i64 y.seq, .slice s2 y.recs.length c2]] w fun e w' => Told (x = y) w e w' := by
  have hlen := h1.len
  have hlen2 := h2.len
  unfold maxLen at hlen hlen2
  obtain ⟨p1, d1, e1, r1⟩ := h1.shape
  cases e1
  obtain ⟨p2, d2, e2, r2⟩ := h2.shape
  cases e2
  have HA : Hid (RecsAt w s1 x.recs ∧ RecsAt w s2 y.recs) := ⟨r1, r2⟩
  clear h1 h2 r1 r2
  obtain ⟨a0, a1, a2, a3, a4, r1⟩ := x
  obtain ⟨b0, b1, b2, b3, b4, r2⟩ := y
  simp only at *
  by_cases e0 : a0 = b0
  case neg =>
    have H0 : Hid (Below w.heap.size w ((w.alloc (.cells #[.int .i64 a0, .int .i64 a1, .int .i64 a2, .int .i64 a3, .int .i64 a4, .slice s1 r1.length c1] 50)).alloc (.cells #[.int .i64 b0, .int .i64 b1, .int .i64 b2, .int .i64 b3, .int .i64 b4, .slice s2 r2.length c2] 50))) := ((Below.refl _ _).alloc (Nat.le_refl _) _).alloc (by simp) _
    have q : (a0 != b0) = true := by simpa using e0
    clear HA
    go_enter Tryd.func31, Tryd.ntmps31
    go_wp2
    go_ret
    exact Told.no (fun e => e0 (congrArg Bat.base e)) H0.out
  subst e0
  by_cases e1 : a1 = b1
  case neg =>
    have H0 : Hid (Below w.heap.size w ((w.alloc (.cells #[.int .i64 a0, .int .i64 a1, .int .i64 a2, .int .i64 a3, .int .i64 a4, .slice s1 r1.length c1] 50)).alloc (.cells #[.int .i64 a0, .int .i64 b1, .int .i64 b2, .int .i64 b3, .int .i64 b4, .slice s2 r2.length c2] 50))) := ((Below.refl _ _).alloc (Nat.le_refl _) _).alloc (by simp) _
    have q : (a1 != b1) = true := by simpa using e1
    clear HA
    go_enter Tryd.func31, Tryd.ntmps31
    go_wp2
    go_ret
    exact Told.no (fun e => e1 (congrArg Bat.epoch e)) H0.out
  subst e1
  by_cases e2 : a2 = b2
  case neg =>
    have H0 : Hid (Below w.heap.size w ((w.alloc (.cells #[.int .i64 a0, .int .i64 a1, .int .i64 a2, .int .i64 a3, .int .i64 a4, .slice s1 r1.length c1] 50)).alloc (.cells #[.int .i64 a0, .int .i64 a1, .int .i64 b2, .int .i64 b3, .int .i64 b4, .slice s2 r2.length c2] 50))) := ((Below.refl _ _).alloc (Nat.le_refl _) _).alloc (by simp) _
    have q : (a2 != b2) = true := by simpa using e2
    clear HA
    go_enter Tryd.func31, Tryd.ntmps31
    go_wp2
    go_ret
    exact Told.no (fun e => e2 (congrArg Bat.pid e)) H0.out
  subst e2
  by_cases e3 : a3 = b3
  case neg =>
    have H0 : Hid (Below w.heap.size w ((w.alloc (.cells #[.int .i64 a0, .int .i64 a1, .int .i64 a2, .int .i64 a3, .int .i64 a4, .slice s1 r1.length c1] 50)).alloc (.cells #[.int .i64 a0, .int .i64 a1, .int .i64 a2, .int .i64 b3, .int .i64 b4, .slice s2 r2.length c2] 50))) := ((Below.refl _ _).alloc (Nat.le_refl _) _).alloc (by simp) _
    have q : (a3 != b3) = true := by simpa using e3
    clear HA
    go_enter Tryd.func31, Tryd.ntmps31
    go_wp2
    go_ret
    exact Told.no (fun e => e3 (congrArg Bat.pidEpoch e)) H0.out
  subst e3
  by_cases e4 : a4 = b4
  case neg =>
    have H0 : Hid (Below w.heap.size w ((w.alloc (.cells #[.int .i64 a0, .int .i64 a1, .int .i64 a2, .int .i64 a3, .int .i64 a4, .slice s1 r1.length c1] 50)).alloc (.cells #[.int .i64 a0, .int .i64 a1, .int .i64 a2, .int .i64 a3, .int .i64 b4, .slice s2 r2.length c2] 50))) := ((Below.refl _ _).alloc (Nat.le_refl _) _).alloc (by simp) _
    have q : (a4 != b4) = true := by simpa using e4
    clear HA
    go_enter Tryd.func31, Tryd.ntmps31
    go_wp2
    go_ret
    exact Told.no (fun e => e4 (congrArg Bat.seq e)) H0.out
  subst e4
  by_cases hl : r1.length = r2.length
  case neg =>
    have H0 : Hid (Below w.heap.size w ((w.alloc (.cells #[.int .i64 a0, .int .i64 a1, .int .i64 a2, .int .i64 a3, .int .i64 a4, .slice s1 r1.length c1] 50)).alloc (.cells #[.int .i64 a0, .int .i64 a1, .int .i64 a2, .int .i64 a3, .int .i64 a4, .slice s2 r2.length c2] 50))) := ((Below.refl _ _).alloc (Nat.le_refl _) _).alloc (by simp) _
    have q : ((r1.length : Int) != (r2.length : Int)) = true := by simp; omega
    clear HA
    go_enter Tryd.func31, Tryd.ntmps31
    go_wp2
    go_ret
    exact Told.no (fun e => hl (congrArg (fun b : Bat => b.recs.length) e)) H0.out
  generalize hn : r1.length = n at *
  rw [← hl]
  have hl2 := hl.symm
  clear hl hlen2
  have H0 : Hid (Below w.heap.size w ((w.alloc (.cells #[.int .i64 a0, .int .i64 a1, .int .i64 a2, .int .i64 a3, .int .i64 a4, .slice s1 n c1] 50)).alloc (.cells #[.int .i64 a0, .int .i64 a1, .int .i64 a2, .int .i64 a3, .int .i64 a4, .slice s2 n c2] 50)) ∧ ((w.alloc (.cells #[.int .i64 a0, .int .i64 a1, .int .i64 a2, .int .i64 a3, .int .i64 a4, .slice s1 n c1] 50)).alloc (.cells #[.int .i64 a0, .int .i64 a1, .int .i64 a2, .int .i64 a3, .int .i64 a4, .slice s2 n c2] 50)).cell? ⟨w.heap.size, 5, none⟩ = some (.slice s1 n c1) ∧ ((w.alloc (.cells #[.int .i64 a0, .int .i64 a1, .int .i64 a2, .int .i64 a3, .int .i64 a4, .slice s1 n c1] 50)).alloc (.cells #[.int .i64 a0, .int .i64 a1, .int .i64 a2, .int .i64 a3, .int .i64 a4, .slice s2 n c2] 50)).cell? ⟨w.heap.size + 1, 5, none⟩ = some (.slice s2 n c2)) := by
    refine ⟨((Below.refl _ _).alloc (Nat.le_refl _) _).alloc (by simp) _, ?_, ?_⟩
    · exact (World.cell?_of_block (a := ⟨w.heap.size, 5, none⟩) (Below.heap_alloc _ _ _ (by simp))).trans (cell_new rfl rfl)
    · exact cell_new (by simp) rfl
  go_enter Tryd.func31, Tryd.ntmps31
  go_wp2
  go_loopw [5] (fun i wr => ∃ k : Nat, k ≤ n ∧ i = .int .i64 k ∧ Hid ((Below w.heap.size w wr ∧ wr.cell? ⟨w.heap.size, 5, none⟩ = some (.slice s1 n c1) ∧ wr.cell? ⟨w.heap.size + 1, 5, none⟩ = some (.slice s2 n c2)) ∧ ∀ j, j < k → r1[j]? = r2[j]?)) (fun i _ => n - (intOf i).toNat)
  case atStart => exact ⟨0, by omega, rfl, H0.out, fun j hj => by omega⟩
  case round =>
    obtain ⟨k, hk, rfl, HD⟩ := hrel
    clear H0
    by_cases hlt : k < n
    · have hlt' : (k : Int) < (n : Int) := by omega
      obtain ⟨g1, o1, h1, hb1, x0, x1, x2⟩ := Recs.at (cap := c1) (HA.out.1.under HD.out.1.1) k (by omega)
      obtain ⟨g2, o2, h2, hb2, y0, y1, y2⟩ := Recs.at (cap := c2) (HA.out.2.under HD.out.1.1) k (by omega)
      subst h1
      subst h2
      obtain ⟨⟨_, z1, z2⟩, _⟩ := HD.out
      have i0 : (0 : Int) ≤ (k : Int) := by omega
      by_cases heq : r1[k] = r2[k]
      · have hq := neq65 (strOf r1[k].key) (strOf r1[k].val) r1[k].time
        rw [← heq] at y0 y1 y2
        have hnx : Hid (∀ j, j < k + 1 → r1[j]? = r2[j]?) := fun j hj => by
          by_cases e : j = k
          · subst e
            rw [List.getElem?_eq_getElem (by omega), List.getElem?_eq_getElem (by omega), heq]
          · exact HD.out.2 j (by omega)
        generalize r1[k].time = T at *
        generalize strOf r1[k].key = K at *
        generalize strOf r1[k].val = V at *
        go_wp2
        go_quiet (fail)
        go_wp2
        go_roundw
        case rel => exact ⟨k + 1, by omega, by go_num, ⟨below_drewN HD.out.1.1 _, HD.out.1.2.1, HD.out.1.2.2⟩, hnx.out⟩
        case measure => simp [intOf]; omega
      · have hq := neq65_not (strOf r1[k].key) (strOf r1[k].val) (strOf r2[k].key) (strOf r2[k].val) r1[k].time r2[k].time (fun ⟨q1, q2, q3⟩ => heq (by
          have f1 := strOf_inj q1
          have f2 := strOf_inj q2
          show (⟨r1[k].key, r1[k].val, r1[k].time⟩ : Rec) = ⟨r2[k].key, r2[k].val, r2[k].time⟩
          rw [f1, f2, q3]))
        have hno : Hid (¬ r1 = r2) := fun e => heq (by subst e; rfl)
        generalize r1[k].time = T at *
        generalize strOf r1[k].key = K at *
        generalize strOf r1[k].val = V at *
        generalize r2[k].time = T2 at *
        generalize strOf r2[k].key = K2 at *
        generalize strOf r2[k].val = V2 at *
        go_wp2
        go_quiet (fail)
        go_wp2
        go_ret
        exact Told.no (fun e => hno.out (congrArg Bat.recs e)) (below_drewN HD.out.1.1 _)
    · have hlt' : ¬ (k : Int) < (n : Int) := by omega
      have hall : Hid (r1 = r2) := List.ext_getElem? fun j => by
        by_cases hj : j < k
        · exact HD.out.2 j hj
        · rw [List.getElem?_eq_none (by omega), List.getElem?_eq_none (by omega)]
      obtain ⟨⟨_, z1, z2⟩, _⟩ := HD.out
      go_wp2
      go_ret
      exact Told.yes (by rw [hall.out]) HD.out.1.1
end Go.Proofs.YtocdlaoklagdoaaDoor
