/- Last. -/
import Derived.Test.YtclldpecbocclaaGreatK12
namespace Go.Proofs.YtclldpecbocclaaGreat
open Go.RowKit Go.Maps
set_option maxRecDepth 100000
set_option linter.unusedSimpArgs false
set_option linter.unusedVariables false

theorem blk3p {W : World} {b : Nat} {u0 u1 u2 : Value} {T : TypeId} (h : W.heap[b]? = some (.cells #[u0, u1, u2] T)) : W.cell? ⟨b, 0, none⟩ = some u0 ∧ W.cell? ⟨b, 1, none⟩ = some u1 ∧ W.cell? ⟨b, 2, none⟩ = some u2 ∧ W.frozen? ⟨b, 0, none⟩ = false ∧ W.frozen? ⟨b, 1, none⟩ = false ∧ W.frozen? ⟨b, 2, none⟩ = false :=
  ⟨cell_at h rfl, cell_at h rfl, cell_at h rfl, frozen_blk h 0, frozen_blk h 1, frozen_blk h 2⟩
set_option maxHeartbeats 1600000 in
theorem last_any {w : World} {U q a v s} (h : LogM w U q a v s) (hb : LB s) :
    Calls Tryz.prog 9 #[.pointer (some ⟨q, 0, none⟩)] w fun e w' => e = .returned (.tuple #[.int .i64 (lastE s).i, .int .i64 (lastE s).t]) ∧ Below w.heap.size w w' := by
  obtain ⟨oa, cap, rfl, hcap, hcm, hnn, hoa⟩ := h.ents.shape
  have c5 := h.c.c5
  have c5A : ∀ O, (w.alloc O).cell? ⟨q, 5, none⟩ = some (.slice oa s.list.length cap) := fun O => Lib.cell?_alloc_some O c5
  have c5D : ∀ O, (w.drew.alloc O).cell? ⟨q, 5, none⟩ = some (.slice oa s.list.length cap) := fun O => Lib.cell?_alloc_some O c5
  have HKp : Hid (∀ W, Below w.heap.size w W → W.cell? ⟨q, 5, none⟩ = some (.slice oa s.list.length cap)) := fun W hW => (h.under hW).c.c5
  have H14 : Hid (∀ W, Below w.heap.size w W → Calls Tryz.prog 20 #[.pointer (some ⟨q, 0, none⟩)] W fun e w' => e = .returned (.int .i64 (s.snap.i + 1)) ∧ W = w') := fun W hW => first_any (h.under hW) hb
  have i0 := hb.i0
  have i1 := hb.i1
  have hlen := hb.len
  have H22 : Hid (∀ W, Below w.heap.size w W → Calls Tryz.prog 22 #[.pointer (some ⟨q, 0, none⟩), .int .i64 (s.snap.i + 1 + (s.list.length : Int))] W fun e w' => e = .returned (.agg #[.int .i64 (lastE s).t, .int .i64 (lastE s).i, .string (strOf (lastE s).d)]) ∧ Below W.heap.size W w') := fun W hW => ahead_any (h.under hW) hb _ (by omega) (by omega)
  have HBt : Hid (∀ W w3, Below w.heap.size w W → Below W.heap.size W w3 → Below w.heap.size w w3) := fun W w3 h1 h2 => h1.trans (h2.mono h1.size)
  clear h hb hoa
  generalize lastE s = E at *
  generalize s.snap.i = I at *
  generalize s.list.length = N at *
  have hw : IntKind.i64.wrap (I + 1 + (N : Int)) = I + 1 + (N : Int) := IntWalk.i64_in _ ⟨by omega, by omega⟩
  go_enter Tryz.func9, Tryz.ntmps9
  go_wp2_with fail
  go_region_with (first
      | (go_at_call 20; refine (H14.out _ (by repeat (first | exact Below.refl _ _ | apply Below.drew | refine Below.alloc ?_ (by simp) _))).mono ?_; rintro e w2 ⟨rfl, rfl⟩)
      | (go_at_call 22; refine (H22.out _ (by repeat (first | exact Below.refl _ _ | apply Below.drew | refine Below.alloc ?_ (by simp) _))).mono ?_; rintro e w3 ⟨rfl, hb3⟩; have HB3 := hid (HBt.out _ _ (by repeat (first | exact Below.refl _ _ | apply Below.drew | refine Below.alloc ?_ (by simp) _)) hb3); first | (have K3 : w3.heap[w.heap.size]? = some (.cells #[.int .i64 0, .int .i64 0, .string ⟨#[]⟩] 37) := (hb3.block _ (by simp)).trans (heap_alloc_new _ _); obtain ⟨r0, r1, r2, f0, f1, f2⟩ := blk3p K3; clear K3 hb3) | (clear hb3))
      | fail)
  all_goals
    go_wp2_with fail
    try go_quiet (fail)
    try go_wp2_with fail
    go_ret2
    refine ⟨rfl, ?_⟩
    repeat (first | exact HB3.out | apply below_drewN | apply Below.drew | refine Below.alloc ?_ HB3.out.size _ | refine set3_below ?_ (Nat.le_refl _) _ _ _)
end Go.Proofs.YtclldpecbocclaaGreat

