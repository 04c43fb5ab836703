/- What is read back: an entry follows. -/
import Derived.Test.YtclldpecbocclaaGreatKG22
namespace Go.Proofs.YtclldpecbocclaaGreat
open Go.RowKit Go.Maps
set_option maxRecDepth 100000
set_option linter.unusedSimpArgs false
set_option linter.unusedVariables false

set_option maxHeartbeats 800000 in
theorem follows_first (x : Et) (n : Int) (w : World) (hx : 1 ≤ x.i ∧ x.i ≤ 1000000000) (hn : 0 ≤ n ∧ n ≤ 1000000000) :
    Calls Tryz.prog 80 #[.agg #[.int .i64 x.t, .int .i64 x.i, .string (strOf x.d)], .slice none 0 0, .int .i64 n] w fun e w' => e = .returned (.bool (decide (x.i ≤ n + 1))) ∧ Below w.heap.size w w' := by
  obtain ⟨cx0, cx1, cx2⟩ := new3 w (.int .i64 x.t) (.int .i64 x.i) (.string (strOf x.d)) 37
  have HB : Hid (Below w.heap.size w (w.alloc (.cells #[.int .i64 x.t, .int .i64 x.i, .string (strOf x.d)] 37))) := hid ((Below.refl _ _).alloc (Nat.le_refl _) _)
  have hw : IntKind.i64.wrap (n + 1) = n + 1 := IntWalk.i64_in _ ⟨by omega, by omega⟩
  go_enter Tryz.func80, Tryz.ntmps80
  go_wp2_with fail
  go_ret
  exact ⟨rfl, HB.out⟩
set_option maxHeartbeats 1600000 in
theorem follows_next (x y : Et) (l : List Et) (oa : Option Addr) (cap : Nat) (n : Int) (w : World) (h : EL w (.slice oa l.length cap) l) (hl : 0 < l.length) (hy : l[l.length - 1]? = some y) (hlm : l.length ≤ 1000000) (hxi : x.i = y.i + 1) (hxt : y.t ≤ x.t) (hx : 1 ≤ x.i ∧ x.i ≤ 1000000000) :
    Calls Tryz.prog 80 #[.agg #[.int .i64 x.t, .int .i64 x.i, .string (strOf x.d)], .slice oa l.length cap, .int .i64 n] w fun e w' => e = .returned (.bool true) ∧ Below w.heap.size w w' := by
  have HB : Hid (Below w.heap.size w (w.alloc (.cells #[.int .i64 x.t, .int .i64 x.i, .string (strOf x.d)] 37))) := hid ((Below.refl _ _).alloc (Nat.le_refl _) _)
  obtain ⟨oa', cap', he, hcap, hcm, hnn, hoa⟩ := h.shape
  obtain ⟨g, hg⟩ := hoa hl
  cases he
  subst hg
  obtain ⟨r0, r1, r2⟩ := (h.under HB.out).at_ (l.length - 1) y hy
  have HX := hid (heap_alloc_new w (.cells #[.int .i64 x.t, .int .i64 x.i, .string (strOf x.d)] 37))
  have hz : (w.alloc (.cells #[.int .i64 x.t, .int .i64 x.i, .string (strOf x.d)] 37)).heap.size = w.heap.size + 1 := by simp
  clear h hoa hnn hy
  obtain ⟨xt, xi, xd⟩ := x
  obtain ⟨yt, yi, yd⟩ := y
  simp only at *
  subst hxi
  generalize hN : l.length = N at *
  obtain ⟨k, rfl⟩ : ∃ k, N = k + 1 := ⟨N - 1, by omega⟩
  simp only [Nat.add_sub_cancel] at r0 r1 r2
  have e1 : ((k + 1 : Nat) : Int) = (k : Int) + 1 := by omega
  have hw : IntKind.i64.wrap (yi + 1) = yi + 1 := IntWalk.i64_in _ ⟨by omega, by omega⟩
  have hw2 : IntKind.i64.wrap ((k : Int) + 1 - 1) = (k : Int) := by rw [show (k : Int) + 1 - 1 = (k : Int) by omega]; exact IntWalk.i64_in _ ⟨by omega, by omega⟩
  have hw3 : IntKind.i64.wrap (k : Int) = (k : Int) := IntWalk.i64_in _ ⟨by omega, by omega⟩
  have hk : (k : Int) < (k : Int) + 1 := by omega
  have hk0 : (0 : Int) ≤ (k : Int) := by omega
  have hkz : ¬ (k : Int) + 1 = 0 := by omega
  have cx0 := cell_blk HX.out 0 _ rfl
  have cx1 := cell_blk HX.out 1 _ rfl
  have HY := hid (new3 (w.alloc (.cells #[.int .i64 xt, .int .i64 (yi + 1), .string (strOf xd)] 37)) (.int .i64 yt) (.int .i64 yi) (.string (strOf yd)) 37)
  obtain ⟨cy0, cy1, cy2⟩ := HY.out
  have HX2 := hid (blk_alloc HX.out (.cells #[.int .i64 yt, .int .i64 yi, .string (strOf yd)] 37))
  have dx0 := cell_blk HX2.out 0 _ rfl
  have dx1 := cell_blk HX2.out 1 _ rfl
  rw [hz] at cy0 cy1 cy2
  have HB2 := hid (HB.out.alloc HB.out.size (.cells #[.int .i64 yt, .int .i64 yi, .string (strOf yd)] 37))
  go_enter Tryz.func80, Tryz.ntmps80
  go_wp2_with fail
  go_ret
  exact ⟨rfl, HB2.out⟩
end Go.Proofs.YtclldpecbocclaaGreat

