/- small: an op's numbers, made small; overlap. -/
import Derived.Test.YtkdbclnnmpnfgaaH13
namespace Go.Proofs.Ytkdbclnnmpnfgaa
open Go.RowKit Go.Maps
set_option maxRecDepth 100000
set_option linter.unusedSimpArgs false
set_option linter.unusedVariables false

set_option maxHeartbeats 3200000 in
theorem small_any (k p e s n o : Int) (w : World) (hk : I64 k) (hp : I64 p) (he : I64 e) (hs : I64 s) (hn : I64 n) :
    Calls Try.prog 26 #[.agg #[.int .i64 k, .int .i64 p, .int .i64 e, .int .i64 s, .int .i64 n, .int .i64 o]] w fun en w' =>
      en = .returned (.agg #[.int .i64 (pickI k 8), .int .i64 (1 + pickI p 3), .int .i64 (pickI e 3), .int .i64 (pickI s 12), .int .i64 (1 + pickI n 3), .int .i64 o]) ∧ Below w.heap.size w w' := by
  have HA : Hid (∀ (c n : Int) (w : World), I64 c → 1 ≤ n → n ≤ 1000000 → Calls Try.prog 10 #[.int .i64 c, .int .i64 n] w fun e w' => e = .returned (.int .i64 (pickI c n)) ∧ w = w') := fun c n w a b d => pick_any c n w a b d
  have p1 := pickI_range p 3 (by omega)
  have p2 := pickI_range n 3 (by omega)
  have hw1 : IntKind.i64.wrap (1 + pickI p 3) = 1 + pickI p 3 := IntWalk.i64_in _ (by omega)
  have hw2 : IntKind.i64.wrap (1 + pickI n 3) = 1 + pickI n 3 := IntWalk.i64_in _ (by omega)
  obtain ⟨q0, q1, q2, q3⟩ := world2 w (.cells #[.int .i64 k, .int .i64 p, .int .i64 e, .int .i64 s, .int .i64 n, .int .i64 o] 29) (.cells #[.int .i64 0, .int .i64 0, .int .i64 0, .int .i64 0, .int .i64 0, .int .i64 0] 29)
  have c0 := cell_blk q0 0 _ rfl
  have c1 := cell_blk q0 1 _ rfl
  have c2 := cell_blk q0 2 _ rfl
  have c3 := cell_blk q0 3 _ rfl
  have c4 := cell_blk q0 4 _ rfl
  have c5 := cell_blk q0 5 _ rfl
  have HQ1 := hid q1
  have HQ2 := hid q2
  clear q0 q1 q2 q3
  go_enter Try.func26, Try.ntmps26
  go_wp2_with fail
  generalize (w.alloc (.cells #[.int .i64 k, .int .i64 p, .int .i64 e, .int .i64 s, .int .i64 n, .int .i64 o] 29)).alloc (.cells #[.int .i64 0, .int .i64 0, .int .i64 0, .int .i64 0, .int .i64 0, .int .i64 0] 29) = W at *
  have d0 := cell_blk HQ1.out 0 _ rfl
  have d1 := cell_blk HQ1.out 1 _ rfl
  have d2 := cell_blk HQ1.out 2 _ rfl
  have d3 := cell_blk HQ1.out 3 _ rfl
  have d4 := cell_blk HQ1.out 4 _ rfl
  have d5 := cell_blk HQ1.out 5 _ rfl
  have f := fun j => frozen_blk HQ1.out j
  go_region_held3 (fun w' => w'.cell? ⟨w.heap.size, 0, none⟩ = some (.int .i64 k) ∧ w'.cell? ⟨w.heap.size, 1, none⟩ = some (.int .i64 p) ∧ w'.cell? ⟨w.heap.size, 2, none⟩ = some (.int .i64 e) ∧ w'.cell? ⟨w.heap.size, 3, none⟩ = some (.int .i64 s) ∧ w'.cell? ⟨w.heap.size, 4, none⟩ = some (.int .i64 n) ∧ w'.cell? ⟨w.heap.size, 5, none⟩ = some (.int .i64 o)) (go_keep)
    (first
    | (go_at_call 10; refine (HA.out _ _ _ (by assumption) (by omega) (by omega)).mono ?_; rintro en w2 ⟨rfl, rfl⟩)
    | fail)
  all_goals
    go_wp2_with fail

    have hbx := set_box (j := 5) (u := .int .i64 o) (set_box (j := 4) (u := .int .i64 (1 + pickI n 3)) (set_box (j := 3) (u := .int .i64 (pickI s 12)) (set_box (j := 2) (u := .int .i64 (pickI e 3)) (set_box (j := 1) (u := .int .i64 (1 + pickI p 3)) (set_box (j := 0) (u := .int .i64 (pickI k 8)) HQ1.out)))))
    have hbl := six_below HQ2.out (Nat.le_succ w.heap.size) (.int .i64 (pickI k 8)) (.int .i64 (1 + pickI p 3)) (.int .i64 (pickI e 3)) (.int .i64 (pickI s 12)) (.int .i64 (1 + pickI n 3)) (.int .i64 o)
    generalize (((((W.setCell ⟨w.heap.size + 1, 0, none⟩ (.int .i64 (pickI k 8))).setCell ⟨w.heap.size + 1, 1, none⟩ (.int .i64 (1 + pickI p 3))).setCell ⟨w.heap.size + 1, 2, none⟩ (.int .i64 (pickI e 3))).setCell ⟨w.heap.size + 1, 3, none⟩ (.int .i64 (pickI s 12))).setCell ⟨w.heap.size + 1, 4, none⟩ (.int .i64 (1 + pickI n 3))).setCell ⟨w.heap.size + 1, 5, none⟩ (.int .i64 o) = V at *
    have r0 : V.drew.cell? ⟨w.heap.size + 1, 0, none⟩ = some (.int .i64 (pickI k 8)) := cell_blk hbx 0 _ rfl
    have r1 : V.drew.cell? ⟨w.heap.size + 1, 1, none⟩ = some (.int .i64 (1 + pickI p 3)) := cell_blk hbx 1 _ rfl
    have r2 : V.drew.cell? ⟨w.heap.size + 1, 2, none⟩ = some (.int .i64 (pickI e 3)) := cell_blk hbx 2 _ rfl
    have r3 : V.drew.cell? ⟨w.heap.size + 1, 3, none⟩ = some (.int .i64 (pickI s 12)) := cell_blk hbx 3 _ rfl
    have r4 : V.drew.cell? ⟨w.heap.size + 1, 4, none⟩ = some (.int .i64 (1 + pickI n 3)) := cell_blk hbx 4 _ rfl
    have r5 : V.drew.cell? ⟨w.heap.size + 1, 5, none⟩ = some (.int .i64 o) := cell_blk hbx 5 _ rfl
    have hbd := hbl.drew
    generalize V.drew = V2 at *
    exact bodyPost_ret (v := .agg #[.int .i64 (pickI k 8), .int .i64 (1 + pickI p 3), .int .i64 (pickI e 3), .int .i64 (pickI s 12), .int .i64 (1 + pickI n 3), .int .i64 o]) (by simp [results, Try.results26, go_sem, r0, r1, r2, r3, r4, r5]) rfl ⟨rfl, hbd⟩

/-- A batch in a log: its numbers, and how many records. -/
structure Lg where
  pid : Int
  ep : Int
  seq : Int
  n : Nat
  base : Int
def Lg.val (x : Lg) (g : Nat) : Value := .agg #[.int .i64 x.base, .int .i64 0, .int .i64 x.pid, .int .i64 x.ep, .int .i64 x.seq, .slice (some ⟨g, 0, none⟩) x.n x.n]
def overB2 (x b : Lg) : Bool := decide (x.pid = b.pid) && decide (x.ep = b.ep) && decide (x.seq < b.seq + b.n) && decide (b.seq < x.seq + x.n)

set_option maxHeartbeats 3200000 in
theorem overlap_any (x b : Lg) (g h : Nat) (w : World) (hx : 0 ≤ x.seq ∧ x.seq ≤ 1000000 ∧ x.n ≤ 1000) (hb : 0 ≤ b.seq ∧ b.seq ≤ 1000000 ∧ b.n ≤ 1000) :
    Calls Try.prog 54 #[.agg #[.int .i64 x.base, .int .i64 0, .int .i64 x.pid, .int .i64 x.ep, .int .i64 x.seq, .slice (some ⟨g, 0, none⟩) x.n x.n], .agg #[.int .i64 b.base, .int .i64 0, .int .i64 b.pid, .int .i64 b.ep, .int .i64 b.seq, .slice (some ⟨h, 0, none⟩) b.n b.n]] w fun e w' =>
      e = .returned (.bool (overB2 x b)) ∧ Below w.heap.size w w' := by
  obtain ⟨xp, xe, xs, xn, xb⟩ := x
  obtain ⟨bp, be, bs, bn, bb⟩ := b
  simp only at *
  have HO : Hid (overB2 ⟨xp, xe, xs, xn, xb⟩ ⟨bp, be, bs, bn, bb⟩ = (decide (xp = bp) && decide (xe = be) && decide (xs < bs + bn) && decide (bs < xs + xn))) := rfl
  have hB := hid (world2 w (.cells #[.int .i64 xb, .int .i64 0, .int .i64 xp, .int .i64 xe, .int .i64 xs, .slice (some ⟨g, 0, none⟩) xn xn] 33) (.cells #[.int .i64 bb, .int .i64 0, .int .i64 bp, .int .i64 be, .int .i64 bs, .slice (some ⟨h, 0, none⟩) bn bn] 33)).2.2.1
  obtain ⟨hx1, hx2, hx3⟩ := hx
  obtain ⟨hb1, hb2, hb3⟩ := hb
  by_cases h1 : xp = bp
  · by_cases h2 : xe = be
    · by_cases h3 : xs < bs + bn
      · by_cases h4 : bs < xs + xn
        all_goals
          first
            | have HF : Hid (overB2 ⟨xp, xe, xs, xn, xb⟩ ⟨bp, be, bs, bn, bb⟩ = true) := by show _ = _; rw [HO.out]; simp [h1, h2, h3, h4]
            | have HF : Hid (overB2 ⟨xp, xe, xs, xn, xb⟩ ⟨bp, be, bs, bn, bb⟩ = false) := by show _ = _; rw [HO.out]; simp [h1, h2, h3, h4]
          subst h1 h2
          go_enter Try.func54, Try.ntmps54
          go_wp2_with fail
          go_ret
          exact ⟨by rw [HF.out]; rfl, hB.out⟩
      · have HF : Hid (overB2 ⟨xp, xe, xs, xn, xb⟩ ⟨bp, be, bs, bn, bb⟩ = false) := by show _ = _; rw [HO.out]; simp [h1, h2, h3]
        subst h1 h2
        go_enter Try.func54, Try.ntmps54
        go_wp2_with fail
        go_ret
        exact ⟨by rw [HF.out]; rfl, hB.out⟩
    · have HF : Hid (overB2 ⟨xp, xe, xs, xn, xb⟩ ⟨bp, be, bs, bn, bb⟩ = false) := by show _ = _; rw [HO.out]; simp [h1, h2]
      subst h1
      have h2' : (xe == be) = false := by simpa using h2
      go_enter Try.func54, Try.ntmps54
      go_wp2_with fail
      go_ret
      exact ⟨by rw [HF.out]; rfl, hB.out⟩
  · have HF : Hid (overB2 ⟨xp, xe, xs, xn, xb⟩ ⟨bp, be, bs, bn, bb⟩ = false) := by show _ = _; rw [HO.out]; simp [h1]
    have h1' : (xp == bp) = false := by simpa using h1
    go_enter Try.func54, Try.ntmps54
    go_wp2_with fail
    go_ret
    exact ⟨by rw [HF.out]; rfl, hB.out⟩
end Go.Proofs.Ytkdbclnnmpnfgaa

