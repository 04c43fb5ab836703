/- Two batches that are the same. -/
import Derived.Test.YtcmmfmibgnebpaaShown
import Derived.Laws.StructEq
namespace Go.Proofs.Ytcmmfmibgnebpaa
open Go.RowKit Go.Maps
set_option linter.unusedSimpArgs false
set_option linter.unusedVariables false
set_option maxRecDepth 100000

set_option maxHeartbeats 1000000 in
theorem neq51 (k v : ByteArray) (t : Int) (w : World) : (binOp .neq 51 (.agg #[.string k, .string v, .int .i64 t]) (.agg #[.string k, .string v, .int .i64 t])).run Try.prog w = .ok (.bool false) w := by
  rw [run_neq_struct, run_equalIn_agg w 9999 51 _ _ (by kernel_rfl) (by kernel_rfl)]
  simp [go_sem]

set_option maxHeartbeats 1600000 in
theorem same_eq {w : World} (b : Bat) (s1 s2 : Option Addr) (c1 c2 : Nat) (h1 : Recs w (.slice s1 b.recs.length c1) b.recs) (h2 : Recs w (.slice s2 b.recs.length c2) b.recs) :
    Calls Try.prog 23 #[.agg #[.int .i64 b.base, .int .i64 b.epoch, .int .i64 b.pid, .int .i64 b.pidEpoch, .int .i64 b.seq, .slice s1 b.recs.length c1], .agg #[.int .i64 b.base, .int .i64 b.epoch, .int .i64 b.pid, .int .i64 b.pidEpoch, .int .i64 b.seq, .slice s2 b.recs.length c2]] w fun e w' => e = .returned (.bool true) ∧ Below w.heap.size w w' := by
  have hlen := h1.len
  unfold maxLen at hlen
  obtain ⟨a1, d1, e1, r1⟩ := h1.shape
  cases e1
  obtain ⟨a2, d2, e2, r2⟩ := h2.shape
  cases e2
  have HA : Hid (RecsAt w s1 b.recs ∧ RecsAt w s2 b.recs) := ⟨r1, r2⟩
  clear h1 h2 r1 r2
  obtain ⟨n0, n1, n2, n3, n4, rs⟩ := b
  simp only at *
  go_enter Try.func23, Try.ntmps23
  go_wp2
  have H0 : Hid (Below w.heap.size w ((w.alloc (.cells #[.int .i64 n0, .int .i64 n1, .int .i64 n2, .int .i64 n3, .int .i64 n4, .slice s1 rs.length c1] 32)).alloc (.cells #[.int .i64 n0, .int .i64 n1, .int .i64 n2, .int .i64 n3, .int .i64 n4, .slice s2 rs.length c2] 32)) ∧ ((w.alloc (.cells #[.int .i64 n0, .int .i64 n1, .int .i64 n2, .int .i64 n3, .int .i64 n4, .slice s1 rs.length c1] 32)).alloc (.cells #[.int .i64 n0, .int .i64 n1, .int .i64 n2, .int .i64 n3, .int .i64 n4, .slice s2 rs.length c2] 32)).cell? ⟨w.heap.size, 5, none⟩ = some (.slice s1 rs.length c1) ∧ ((w.alloc (.cells #[.int .i64 n0, .int .i64 n1, .int .i64 n2, .int .i64 n3, .int .i64 n4, .slice s1 rs.length c1] 32)).alloc (.cells #[.int .i64 n0, .int .i64 n1, .int .i64 n2, .int .i64 n3, .int .i64 n4, .slice s2 rs.length c2] 32)).cell? ⟨w.heap.size + 1, 5, none⟩ = some (.slice s2 rs.length c2)) := by
    refine ⟨((Below.refl _ _).alloc (Nat.le_refl _) _).alloc (by simp) _, ?_, ?_⟩
    · exact (World.cell?_of_block (a := ⟨w.heap.size, 5, none⟩) (Below.heap_alloc _ _ _ (by simp))).trans (cell_new rfl rfl)
    · exact cell_new (by simp) rfl
  go_loopw [5] (fun i wr => ∃ k : Nat, k ≤ rs.length ∧ i = .int .i64 k ∧ Hid (Below w.heap.size w wr ∧ wr.cell? ⟨w.heap.size, 5, none⟩ = some (.slice s1 rs.length c1) ∧ wr.cell? ⟨w.heap.size + 1, 5, none⟩ = some (.slice s2 rs.length c2))) (fun i _ => rs.length - (intOf i).toNat)
  case atStart => exact ⟨0, by omega, rfl, H0⟩
  case round =>
    obtain ⟨k, hk, rfl, HD⟩ := hrel
    clear H0
    by_cases hlt : k < rs.length
    · have hlt' : (k : Int) < (rs.length : Int) := by omega
      obtain ⟨b1, o1, h1, hb1, x0, x1, x2⟩ := Recs.at (cap := c1) (HA.out.1.under HD.out.1) k hlt
      obtain ⟨b2, o2, h2, hb2, y0, y1, y2⟩ := Recs.at (cap := c2) (HA.out.2.under HD.out.1) k hlt
      have hq := neq51 (strOf rs[k].key) (strOf rs[k].val) rs[k].time
      generalize rs[k].time = T at *
      generalize strOf rs[k].key = K at *
      generalize strOf rs[k].val = V at *
      subst h1
      subst h2
      obtain ⟨_, z1, z2⟩ := HD.out
      have i0 : (0 : Int) ≤ (k : Int) := by omega
      go_wp2
      go_quiet (fail)
      go_wp2
      go_roundw
      case rel => exact ⟨k + 1, by omega, by go_num, below_drewN HD.out.1 _, HD.out.2.1, HD.out.2.2⟩
      case measure => simp [intOf]; omega
    · have hlt' : ¬ (k : Int) < (rs.length : Int) := by omega
      obtain ⟨_, z1, z2⟩ := HD.out
      go_wp2
      go_ret
      exact ⟨rfl, HD.out.1⟩
end Go.Proofs.Ytcmmfmibgnebpaa
