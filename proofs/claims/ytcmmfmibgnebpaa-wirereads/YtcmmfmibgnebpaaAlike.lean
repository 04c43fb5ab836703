/- Two records that are alike. -/
import Derived.Test.YtcmmfmibgnebpaaMbody
namespace Go.Proofs.Ytcmmfmibgnebpaa
open Go.RowKit Go.Maps
set_option linter.unusedSimpArgs false
set_option linter.unusedVariables false
set_option maxRecDepth 100000

theorem IntsAt.cell {w : World} {a : Option Addr} {ns : List Int} {cap : Nat} (h : IntsAt w a w.heap.size ns) (k : Nat) (hk : k < ns.length) : ∃ b off, a = some ⟨b, off, none⟩ ∧ b < w.heap.size ∧ w.cell? ⟨b, off + k, none⟩ = some (.int .i64 ns[k]) := by
  rcases h with h | ⟨b, off, e, hl, hc⟩
  · subst h; simp at hk
  · exact ⟨b, off, e, hl, hc k hk⟩

set_option maxHeartbeats 1600000 in
theorem alike_eq {w : World} (m : Met) (s1 s2 : Option Addr) (c1 c2 : Nat) (hlen : m.list.length ≤ maxLen) (h1 : IntsAt w s1 w.heap.size m.list) (h2 : IntsAt w s2 w.heap.size m.list) :
    Calls Try.prog 26 #[.agg #[.int .i64 m.kind, .int .i64 m.a, .int .i64 m.b, .int .i64 m.c, .int .i64 m.d, .string (strOf m.name), .string (strOf m.text), .slice s1 m.list.length c1], .agg #[.int .i64 m.kind, .int .i64 m.a, .int .i64 m.b, .int .i64 m.c, .int .i64 m.d, .string (strOf m.name), .string (strOf m.text), .slice s2 m.list.length c2]] w fun e w' => e = .returned (.bool true) ∧ Below w.heap.size w w' := by
  unfold maxLen at hlen
  have HA : Hid (IntsAt w s1 w.heap.size m.list ∧ IntsAt w s2 w.heap.size m.list) := ⟨h1, h2⟩
  clear h1 h2
  obtain ⟨n0, n1, n2, n3, n4, nm, tx, rs⟩ := m
  simp only at *
  generalize strOf nm = NM at *
  generalize strOf tx = TX at *
  have H0 : Hid (∀ (O1 O2 : Obj), O1 = .cells #[.int .i64 n0, .int .i64 n1, .int .i64 n2, .int .i64 n3, .int .i64 n4, .string NM, .string TX, .slice s1 rs.length c1] 43 → O2 = .cells #[.int .i64 n0, .int .i64 n1, .int .i64 n2, .int .i64 n3, .int .i64 n4, .string NM, .string TX, .slice s2 rs.length c2] 43 → Below w.heap.size w ((w.alloc O1).alloc O2) ∧ ((w.alloc O1).alloc O2).cell? ⟨w.heap.size, 7, none⟩ = some (.slice s1 rs.length c1) ∧ ((w.alloc O1).alloc O2).cell? ⟨w.heap.size + 1, 7, none⟩ = some (.slice s2 rs.length c2)) := by
    rintro O1 O2 rfl rfl
    refine ⟨((Below.refl _ _).alloc (Nat.le_refl _) _).alloc (by simp) _, ?_, ?_⟩
    · exact (World.cell?_of_block (a := ⟨w.heap.size, 7, none⟩) (Below.heap_alloc _ _ _ (by simp))).trans (cell_new rfl rfl)
    · exact cell_new (by simp) rfl
  go_enter Try.func26, Try.ntmps26
  go_wp2
  go_loopw [5] (fun i wr => ∃ k : Nat, k ≤ rs.length ∧ i = .int .i64 k ∧ Hid (Below w.heap.size w wr ∧ wr.cell? ⟨w.heap.size, 7, none⟩ = some (.slice s1 rs.length c1) ∧ wr.cell? ⟨w.heap.size + 1, 7, none⟩ = some (.slice s2 rs.length c2))) (fun i _ => rs.length - (intOf i).toNat)
  case atStart => exact ⟨0, by omega, rfl, H0.out _ _ rfl rfl⟩
  case round =>
    obtain ⟨k, hk, rfl, HD⟩ := hrel
    clear H0
    by_cases hlt : k < rs.length
    · have hlt' : (k : Int) < (rs.length : Int) := by omega
      obtain ⟨b1, o1, h1, hb1, x0⟩ := IntsAt.cell (cap := c1) ((HA.out.1.under HD.out.1).more HD.out.1.size) k hlt
      obtain ⟨b2, o2, h2, hb2, y0⟩ := IntsAt.cell (cap := c2) ((HA.out.2.under HD.out.1).more HD.out.1.size) k hlt
      generalize rs[k] = T at *
      subst h1
      subst h2
      obtain ⟨_, z1, z2⟩ := HD.out
      have i0 : (0 : Int) ≤ (k : Int) := by omega
      go_wp2
      go_quiet (fail)
      go_wp2
      go_roundw
      case rel => exact ⟨k + 1, by omega, by go_num, below_drewN HD.out.1 _, HD.out.2.1, HD.out.2.2⟩
      case measure => simp [intOf]; omega
    · have hlt' : ¬ (k : Int) < (rs.length : Int) := by omega
      obtain ⟨_, z1, z2⟩ := HD.out
      go_wp2
      go_ret
      exact ⟨rfl, HD.out.1⟩
end Go.Proofs.Ytcmmfmibgnebpaa
