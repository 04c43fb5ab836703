/- isNumber, isCount, next, follows, find. -/
import Derived.Test.YtkdbclnnmpnfgaaH6
import Derived.Deep.QuietTactic
import Derived.BigQuiet
namespace Go.Proofs.Ytkdbclnnmpnfgaa
open Go.RowKit Go.Maps
set_option maxRecDepth 100000
set_option linter.unusedSimpArgs false
set_option linter.unusedVariables false

set_option maxHeartbeats 400000 in
theorem isNumber_any (n : Int) (w : World) (hn : I64 n) : Calls Try.prog 33 #[.int .i64 n] w fun e w' => e = .returned (.bool (inB n)) ∧ w = w' := by
  unfold I64 at hn
  go_enter Try.func33, Try.ntmps33
  go_wp2
  all_goals
    go_ret
    refine ⟨ret_bool ?_, rfl⟩
    rw [Bool.eq_iff_iff]
    simp [inB]
    try omega
set_option maxHeartbeats 400000 in
theorem isCount_any (n : Int) (w : World) (hn : I64 n) : Calls Try.prog 34 #[.int .i64 n] w fun e w' => e = .returned (.bool (decide (1 ≤ n) && decide (n ≤ 64))) ∧ w = w' := by
  unfold I64 at hn
  go_enter Try.func34, Try.ntmps34
  go_wp2
  all_goals
    go_ret
    refine ⟨ret_bool ?_, rfl⟩
    rw [Bool.eq_iff_iff]
    simp
    try omega
set_option maxHeartbeats 400000 in
theorem next_any (a b c : Int) (w : World) (hb : 0 ≤ b ∧ b ≤ 1000000) (hc : 0 ≤ c ∧ c ≤ 1000000) : Calls Try.prog 60 #[.agg #[.int .i64 a, .int .i64 b, .int .i64 c]] w fun e w' => e = .returned (.int .i64 (b + c)) ∧ Below w.heap.size w w' := by
  obtain ⟨hb1, hb2⟩ := hb
  obtain ⟨hc1, hc2⟩ := hc
  go_enter Try.func60, Try.ntmps60
  go_wp2
  go_ret
  exact ⟨rfl, (Below.refl _ _).alloc (Nat.le_refl _) _⟩

theorem world2 (w : World) (O1 O2 : Obj) : ((w.alloc O1).alloc O2).heap[w.heap.size]? = some O1 ∧ ((w.alloc O1).alloc O2).heap[w.heap.size + 1]? = some O2 ∧ Below w.heap.size w ((w.alloc O1).alloc O2) ∧ ((w.alloc O1).alloc O2).heap.size = w.heap.size + 2 := by
  refine ⟨?_, ?_, ((Below.refl _ _).alloc (Nat.le_refl _) _).alloc (by simp) _, by simp⟩
  · rw [Below.heap_alloc _ _ _ (by simp)]; exact heap_alloc_new _ _
  · have := heap_alloc_new (w.alloc O1) O2
    simpa using this

set_option maxHeartbeats 3200000 in
theorem follows_any {w : World} {v : Value} {l : List Nt} (h : NL w v l) (hl : LOk l) (hlen : l.length ≤ 100000) (x : Nt) (hx : NtOk x) :
    Calls Try.prog 29 #[v, .agg #[.int .i64 x.ep, .int .i64 x.seq, .int .i64 x.n, .int .i64 x.off]] w fun e w' => e = .returned (.bool (folB l x)) ∧ Below w.heap.size w w' := by
  obtain ⟨oa, cap, rfl, hcap, hcm, hnn, hoa⟩ := h.shape
  cases hlast : l[l.length - 1]? with
  | none =>
    have hl0 := last_none hlast
    subst hl0
    go_enter Try.func29, Try.ntmps29
    go_wp2_with fail
    go_ret
    exact ⟨rfl, (Below.refl _ _).alloc (Nat.le_refl _) _⟩
  | some y =>
    have HL := hid (folB_some (x := x) hlast)
    have hpos : 0 < l.length := by cases l with | nil => simp at hlast | cons y r => simp
    obtain ⟨g, rfl⟩ := hoa hpos
    obtain ⟨r0, r1, r2, r3⟩ := h.at_ _ _ hlast
    have hgw : g < w.heap.size := h.lt g rfl
    have hy := hl.all y (List.mem_of_getElem? hlast)
    obtain ⟨n, hn1⟩ : ∃ n, l.length = n + 1 := ⟨l.length - 1, by omega⟩
    have hn2 : l.length - 1 = n := by omega
    rw [hn2] at r0 r1 r2 r3
    rw [hn1] at hcap hlen ⊢
    have hn3 : IntKind.i64.wrap ((n : Int) + 1 - 1) = (n : Int) := by rw [IntWalk.i64_in _ (by omega)]; omega
    have hn4 : IntKind.i64.wrap (n : Int) = (n : Int) := IntWalk.i64_in _ (by omega)
    have hn5 : (n : Int) < (n : Int) + 1 := by omega
    have hne : ¬ ((n : Int) + 1 = 0) := by omega
    have hne' : ((n : Int) + 1 == 0) = false := by simp; omega
    obtain ⟨ye, ys, yn, yo⟩ := y
    obtain ⟨xe, xs, xn, xo⟩ := x
    have hy1 := hy.ep; have hy2 := hy.n; have hy3 := hy.seq; have hy4 := hy.off
    have hx1 := hx.ep; have hx2 := hx.n; have hx3 := hx.seq; have hx4 := hx.off
    simp only at *
    obtain ⟨q0, q1, hbW, hsW⟩ := world2 w (.cells #[.int .i64 xe, .int .i64 xs, .int .i64 xn, .int .i64 xo] 64) (.cells #[.int .i64 ye, .int .i64 ys, .int .i64 yn, .int .i64 yo] 64)
    have HQ0 := hid q0
    have HQ1 := hid q1
    have HBW := hid hbW
    clear hoa hlast h hn2 hn1 hl hx hy q0 q1 hbW hsW
    by_cases ho : xo ≤ yo
    · have HF : Hid (folB l ⟨xe, xs, xn, xo⟩ = false) := by show _ = _; rw [HL.out]; have : ¬ yo < xo := by omega
                                                            simp [this]
      go_enter Try.func29, Try.ntmps29
      go_wp2_with fail
      go_ret
      exact ⟨by rw [HF.out]; rfl, HBW.out⟩
    · have ho' : ¬ xo ≤ yo := ho
      by_cases he : xe < ye
      · have HF : Hid (folB l ⟨xe, xs, xn, xo⟩ = false) := by show _ = _; rw [HL.out]; have : ¬ ye ≤ xe := by omega
                                                              simp [this]
        go_enter Try.func29, Try.ntmps29
        go_wp2_with fail
        go_ret
        exact ⟨by rw [HF.out]; rfl, HBW.out⟩
      · by_cases he2 : ye < xe
        · have HF : Hid (folB l ⟨xe, xs, xn, xo⟩ = true) := by show _ = _; rw [HL.out]; have : yo < xo := by omega
                                                               have : ye ≤ xe := by omega
                                                               simp [*]
          go_enter Try.func29, Try.ntmps29
          go_wp2_with fail
          go_quiet (fail)
          go_wp2_with fail
          go_ret
          exact ⟨by rw [HF.out]; rfl, by first | exact HBW.out | exact HBW.out.drew | exact below_drewN HBW.out _⟩
        · have he3 : decide (ye < xe) = false := by simpa using he2
          have HF : Hid (folB l ⟨xe, xs, xn, xo⟩ = decide (ys + yn ≤ xs)) := by show _ = _; rw [HL.out]; have : yo < xo := by omega
                                                                                have : ye ≤ xe := by omega
                                                                                simp [*]
          have p0 := cell_blk HQ0.out 0 _ rfl
          have p1 := cell_blk HQ0.out 1 _ rfl
          have p4 := cell_blk HQ1.out 0 _ rfl
          have p5 := cell_blk HQ1.out 1 _ rfl
          have p6 := cell_blk HQ1.out 2 _ rfl
          have HC := hid (fun W => next_any ye ys yn W (by omega) (by omega))
          go_enter Try.func29, Try.ntmps29
          go_wp2_with fail
          generalize (w.alloc (.cells #[.int .i64 xe, .int .i64 xs, .int .i64 xn, .int .i64 xo] 64)).alloc (.cells #[.int .i64 ye, .int .i64 ys, .int .i64 yn, .int .i64 yo] 64) = W at *
          have HK : Hid (∀ W', Below W.heap.size W W' → ∀ p u, W.cell? p = some u → W'.cell? p = some u) := fun W' hb p u hu => (World.cell?_of_block (hb.block p.block (World.block_lt_of_cell? W _ hu))).trans hu
          have hWs := HBW.out.size
          have HC2 : Hid (∀ W', Below W.heap.size W W' → Calls Try.prog 60 #[.agg #[.int .i64 ye, .int .i64 ys, .int .i64 yn]] W' fun e w' => e = .returned (.int .i64 (ys + yn)) ∧ Below W.heap.size W w') := fun W' hb => (HC.out W').mono fun e w' ⟨a, b⟩ => ⟨a, hb.trans (b.mono hb.size)⟩
          go_region_held3 (fun w' => w'.cell? ⟨w.heap.size, 0, none⟩ = some (.int .i64 xe) ∧ w'.cell? ⟨w.heap.size, 1, none⟩ = some (.int .i64 xs) ∧ w'.cell? ⟨w.heap.size + 1, 0, none⟩ = some (.int .i64 ye) ∧ w'.cell? ⟨w.heap.size + 1, 1, none⟩ = some (.int .i64 ys) ∧ w'.cell? ⟨w.heap.size + 1, 2, none⟩ = some (.int .i64 yn)) (go_keep)
            (first
            | (go_at_call 60; refine (HC2.out _ (by first | exact Below.refl _ _ | exact (Below.refl _ _).drew)).mono ?_; rintro e w4 ⟨rfl, hb4⟩; have HB4 : Hid (Below W.heap.size W w4) := hb4; clear hb4; have z0 := HK.out _ HB4.out _ _ p0; have z1 := HK.out _ HB4.out _ _ p1; have z4 := HK.out _ HB4.out _ _ p4; have z5 := HK.out _ HB4.out _ _ p5; have z6 := HK.out _ HB4.out _ _ p6)
            | fail)
          all_goals
            go_wp2_with fail
            go_ret
            exact ⟨by rw [HF.out]; rfl, HBW.out.trans (HB4.out.mono hWs)⟩
end Go.Proofs.Ytkdbclnnmpnfgaa

