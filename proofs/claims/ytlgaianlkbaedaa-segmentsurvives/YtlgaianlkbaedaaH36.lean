/- Two batches that are the same. -/
import Derived.Test.YtlgaianlkbaedaaH32
import Derived.Laws.StructEq
import Derived.Test.YtlgaianlkbaedaaH35
namespace Go.Proofs.Ytlgaianlkbaedaa
open Go.RowKit Go.Maps
set_option linter.unusedSimpArgs false
set_option linter.unusedVariables false
set_option maxRecDepth 100000

set_option maxHeartbeats 1000000 in
theorem neq68 (k v : ByteArray) (t : Int) (w : World) : (binOp .neq 68 (.agg #[.string k, .string v, .int .i64 t]) (.agg #[.string k, .string v, .int .i64 t])).run Try.prog w = .ok (.bool false) w := by
  rw [run_neq_struct, run_equalIn_agg w 9999 68 _ _ (by kernel_rfl) (by kernel_rfl)]
  simp [go_sem]

set_option maxHeartbeats 1600000 in
theorem same_eq {w : World} (b : Bat) (s1 s2 : Option Addr) (c1 c2 : Nat) (h1 : Recs w (.slice s1 b.recs.length c1) b.recs) (h2 : Recs w (.slice s2 b.recs.length c2) b.recs) :
    Calls Try.prog 43 #[.agg #[.int .i64 b.base, .int .i64 b.epoch, .int .i64 b.pid, .int .i64 b.pidEpoch, .int .i64 b.seq, .slice s1 b.recs.length c1], .agg #[.int .i64 b.base, .int .i64 b.epoch, .int .i64 b.pid, .int .i64 b.pidEpoch, .int .i64 b.seq, .slice s2 b.recs.length c2]] w fun e w' => e = .returned (.bool true) ∧ Below w.heap.size w w' := by
  have hlen := h1.len
  unfold maxLen at hlen
  obtain ⟨a1, d1, e1, r1⟩ := h1.shape
  cases e1
  obtain ⟨a2, d2, e2, r2⟩ := h2.shape
  cases e2
  have HA : Hid (RecsAt w s1 b.recs ∧ RecsAt w s2 b.recs) := ⟨r1, r2⟩
  clear h1 h2 r1 r2
  obtain ⟨n0, n1, n2, n3, n4, rs⟩ := b
  simp only at *
  go_enter Try.func43, Try.ntmps43
  go_wp2
  have H0 : Hid (Below w.heap.size w ((w.alloc (.cells #[.int .i64 n0, .int .i64 n1, .int .i64 n2, .int .i64 n3, .int .i64 n4, .slice s1 rs.length c1] 34)).alloc (.cells #[.int .i64 n0, .int .i64 n1, .int .i64 n2, .int .i64 n3, .int .i64 n4, .slice s2 rs.length c2] 34)) ∧ ((w.alloc (.cells #[.int .i64 n0, .int .i64 n1, .int .i64 n2, .int .i64 n3, .int .i64 n4, .slice s1 rs.length c1] 34)).alloc (.cells #[.int .i64 n0, .int .i64 n1, .int .i64 n2, .int .i64 n3, .int .i64 n4, .slice s2 rs.length c2] 34)).cell? ⟨w.heap.size, 5, none⟩ = some (.slice s1 rs.length c1) ∧ ((w.alloc (.cells #[.int .i64 n0, .int .i64 n1, .int .i64 n2, .int .i64 n3, .int .i64 n4, .slice s1 rs.length c1] 34)).alloc (.cells #[.int .i64 n0, .int .i64 n1, .int .i64 n2, .int .i64 n3, .int .i64 n4, .slice s2 rs.length c2] 34)).cell? ⟨w.heap.size + 1, 5, none⟩ = some (.slice s2 rs.length c2)) := by
    refine ⟨((Below.refl _ _).alloc (Nat.le_refl _) _).alloc (by simp) _, ?_, ?_⟩
    · exact (World.cell?_of_block (a := ⟨w.heap.size, 5, none⟩) (Below.heap_alloc _ _ _ (by simp))).trans (cell_new rfl rfl)
    · exact cell_new (by simp) rfl
  go_loopw [5] (fun i wr => ∃ k : Nat, k ≤ rs.length ∧ i = .int .i64 k ∧ Hid (Below w.heap.size w wr ∧ wr.cell? ⟨w.heap.size, 5, none⟩ = some (.slice s1 rs.length c1) ∧ wr.cell? ⟨w.heap.size + 1, 5, none⟩ = some (.slice s2 rs.length c2))) (fun i _ => rs.length - (intOf i).toNat)
  case atStart => exact ⟨0, by omega, rfl, H0⟩
  case round =>
    obtain ⟨k, hk, rfl, HD⟩ := hrel
    clear H0
    by_cases hlt : k < rs.length
    · have hlt' : (k : Int) < (rs.length : Int) := by omega
      obtain ⟨b1, o1, h1, hb1, x0, x1, x2⟩ := Recs.at (cap := c1) (HA.out.1.under HD.out.1) k hlt
      obtain ⟨b2, o2, h2, hb2, y0, y1, y2⟩ := Recs.at (cap := c2) (HA.out.2.under HD.out.1) k hlt
      have hq := neq68 (strOf rs[k].key) (strOf rs[k].val) rs[k].time
      generalize rs[k].time = T at *
      generalize strOf rs[k].key = K at *
      generalize strOf rs[k].val = V at *
      subst h1
      subst h2
      obtain ⟨_, z1, z2⟩ := HD.out
      have i0 : (0 : Int) ≤ (k : Int) := by omega
      go_wp2
      go_quiet (fail)
      go_wp2
      go_roundw
      case rel => exact ⟨k + 1, by omega, by go_num, below_drewN HD.out.1 _, HD.out.2.1, HD.out.2.2⟩
      case measure => simp [intOf]; omega
    · have hlt' : ¬ (k : Int) < (rs.length : Int) := by omega
      obtain ⟨_, z1, z2⟩ := HD.out
      go_wp2
      go_ret
      exact ⟨rfl, HD.out.1⟩
end Go.Proofs.Ytlgaianlkbaedaa

/- same. -/
namespace Go.Proofs.Ytlgaianlkbaedaa
open Go.RowKit Go.Maps Go.Sort
set_option maxRecDepth 100000
set_option linter.unusedSimpArgs false
set_option linter.unusedVariables false

theorem flatB_at : ∀ (l : List (Bat × Value)) (i : Nat) (p : Bat × Value), l[i]? = some p → ∀ j, j < 6 → (flatB l)[i * 6 + j]? = (bcells p.1 p.2)[j]?
  | [], i, p, h => by simp at h
  | y :: r, 0, p, h => fun j hj => by
    simp at h; subst h
    show (bcells y.1 y.2 ++ flatB r)[0 * 6 + j]? = _
    rw [List.getElem?_append_left (by simp [bcells]; omega)]
    simp
  | y :: r, i + 1, p, h => fun j hj => by
    have ih := flatB_at r i p (by simpa using h) j hj
    have e1 : (i + 1) * 6 + j = 6 + (i * 6 + j) := by omega
    rw [e1]
    show ([_, _, _, _, _, _] ++ flatB r)[6 + (i * 6 + j)]? = _
    rw [List.getElem?_append_right (by simp)]
    rw [← ih]
    congr 1
    simp
theorem bat_at {w : World} {A g cap : Nat} {ps : List (Bat × Value)} (h : w.ownsRow A 34 6 (.slice (some ⟨g, 0, none⟩) ps.length cap) ps.length (flatB ps)) (i : Nat) (p : Bat × Value) (hp : ps[i]? = some p) : w.cell? ⟨g, i * 6, none⟩ = some (.int .i64 p.1.base) ∧ w.cell? ⟨g, i * 6 + 1, none⟩ = some (.int .i64 p.1.epoch) ∧ w.cell? ⟨g, i * 6 + 2, none⟩ = some (.int .i64 p.1.pid) ∧ w.cell? ⟨g, i * 6 + 3, none⟩ = some (.int .i64 p.1.pidEpoch) ∧ w.cell? ⟨g, i * 6 + 4, none⟩ = some (.int .i64 p.1.seq) ∧ w.cell? ⟨g, i * 6 + 5, none⟩ = some p.2 := by
  have hc := fun j u hu => h.cells (g := g) rfl j u hu
  have hadd : ∀ j, (⟨g, 0, none⟩ : Addr).add j = ⟨g, j, none⟩ := fun j => by unfold Addr.add; split <;> simp_all
  have hf := flatB_at ps i p hp
  have key : ∀ j u, j < 6 → (bcells p.1 p.2)[j]? = some u → w.cell? ⟨g, i * 6 + j, none⟩ = some u := fun j u hj hu => by
    have := hc _ _ ((hf j hj).trans hu); rw [hadd] at this; exact this
  exact ⟨key 0 _ (by omega) rfl, key 1 _ (by omega) rfl, key 2 _ (by omega) rfl, key 3 _ (by omega) rfl, key 4 _ (by omega) rfl, key 5 _ (by omega) rfl⟩
theorem BL.shape2 {w : World} {A v ps} (h : BL w A v ps) : ∃ o c, v = .slice o ps.length c ∧ (0 < ps.length → ∃ g, o = some ⟨g, 0, none⟩) := by
  obtain ⟨_, ⟨e, hn⟩ | ⟨g, cap, cur, e, _⟩⟩ := h.row
  · exact ⟨none, 0, by rw [e, hn], fun h => by omega⟩
  · exact ⟨_, _, e, fun _ => ⟨g, rfl⟩⟩
set_option maxHeartbeats 3200000 in
theorem same_yes {w : World} {A1 A2 : Nat} {v1 v2 : Value} {ps1 ps2 : List (Bat × Value)} (h1 : BL w A1 v1 ps1) (h2 : BL w A2 v2 ps2) (he : ps1.map Prod.fst = ps2.map Prod.fst) (hlen : ps1.length ≤ 5000) :
    Calls Try.prog 19 #[v1, v2] w fun e w' => e = .returned (.bool true) ∧ Below w.heap.size w w' := by
  have hll : ps2.length = ps1.length := by have := congrArg List.length he; simpa using this.symm
  obtain ⟨o1, c1, rfl, g1⟩ := h1.shape2
  obtain ⟨o2, c2, rfl, g2⟩ := h2.shape2
  have H1 := hid h1
  have H2 := hid h2
  have HE := hid he
  have HL := hid hll
  clear h1 h2 he
  rw [hll] at g2 ⊢
  clear hll
  go_enter Try.func19, Try.ntmps19
  go_wp2_with fail
  go_loopg [5] ps1.length (fun kx s5 wr => ∃ k : Nat, k ≤ ps1.length ∧ ps1.length - k ≤ kx ∧ s5 = .int .i64 (k : Int) ∧ Hid (Below w.heap.size w wr))
  case atStart => exact ⟨0, by omega, by omega, rfl, Below.refl _ _⟩
  case round =>
    obtain ⟨k, hk, hkx, rfl, HB⟩ := hrel
    by_cases hlt : k < ps1.length
    · have hlt' : (k : Int) < (ps1.length : Int) := by omega
      obtain ⟨ga, rfl⟩ := g1 (by omega)
      obtain ⟨gb, rfl⟩ := g2 (by omega)
      have hx1 : ps1[k]? = some ps1[k] := List.getElem?_eq_getElem hlt
      have hx2 : ps2[k]? = some (ps2[k]'(by have := HL.out; omega)) := List.getElem?_eq_getElem (by have := HL.out; omega)
      obtain ⟨a0, a1, a2, a3, a4, a5⟩ := bat_at (H1.out.under HB.out).row k _ hx1
      obtain ⟨b0, b1, b2, b3, b4, b5⟩ := bat_at (H2.out.under HB.out).row k _ hx2
      have hq1 := (H1.out.under HB.out).recs _ (List.mem_of_getElem? hx1)
      have hq2 := (H2.out.under HB.out).recs _ (List.mem_of_getElem? hx2)
      have hee : (ps2[k]'(by have := HL.out; omega)).1 = ps1[k].1 := by
        have := congrArg (fun l => l[k]?) HE.out
        simp only [List.getElem?_map, hx1, hx2, Option.map_some, Option.some.injEq] at this
        exact this.symm
      rw [hee] at b0 b1 b2 b3 b4 hq2
      clear hee hx1 hx2
      generalize (ps2[k]'(by have := HL.out; omega)).2 = rv2 at *
      generalize ps1[k].2 = rv1 at *
      generalize ps1[k].1 = b at *
      obtain ⟨s1, d1, rfl, _⟩ := hq1.shape
      obtain ⟨s2, d2, rfl, _⟩ := hq2.shape
      have HS := hid (fun W (hb : Below wr.heap.size wr W) => same_eq b s1 s2 d1 d2 (hq1.under hb) (hq2.under hb))
      clear hq1 hq2
      have HKE : Hid (∀ W, Below wr.heap.size wr W → ∀ p u, wr.cell? p = some u → W.cell? p = some u) := fun W hb p u hu => (World.cell?_of_block (hb.block p.block (World.block_lt_of_cell? wr _ hu))).trans hu
      go_wp2_with fail
      go_region_held3 (fun w' => w'.cell? ⟨ga, k * 6, none⟩ = some (.int .i64 b.base) ∧ w'.cell? ⟨ga, k * 6 + 1, none⟩ = some (.int .i64 b.epoch) ∧ w'.cell? ⟨ga, k * 6 + 2, none⟩ = some (.int .i64 b.pid) ∧ w'.cell? ⟨ga, k * 6 + 3, none⟩ = some (.int .i64 b.pidEpoch) ∧ w'.cell? ⟨ga, k * 6 + 4, none⟩ = some (.int .i64 b.seq) ∧ w'.cell? ⟨ga, k * 6 + 5, none⟩ = some (.slice s1 b.recs.length d1) ∧ w'.cell? ⟨gb, k * 6, none⟩ = some (.int .i64 b.base) ∧ w'.cell? ⟨gb, k * 6 + 1, none⟩ = some (.int .i64 b.epoch) ∧ w'.cell? ⟨gb, k * 6 + 2, none⟩ = some (.int .i64 b.pid) ∧ w'.cell? ⟨gb, k * 6 + 3, none⟩ = some (.int .i64 b.pidEpoch) ∧ w'.cell? ⟨gb, k * 6 + 4, none⟩ = some (.int .i64 b.seq) ∧ w'.cell? ⟨gb, k * 6 + 5, none⟩ = some (.slice s2 b.recs.length d2)) (go_keep)
        (first
        | (go_at_call 43; refine (HS.out wr.drew (Below.refl _ _).drew).mono ?_; rintro e w4 ⟨rfl, hb4'⟩; have hb4 : Below wr.heap.size wr w4 := (Below.refl _ _).drew.trans hb4'; have xa0 := HKE.out _ hb4 _ _ a0; have xa1 := HKE.out _ hb4 _ _ a1; have xa2 := HKE.out _ hb4 _ _ a2; have xa3 := HKE.out _ hb4 _ _ a3; have xa4 := HKE.out _ hb4 _ _ a4; have xa5 := HKE.out _ hb4 _ _ a5; have xb0 := HKE.out _ hb4 _ _ b0; have xb1 := HKE.out _ hb4 _ _ b1; have xb2 := HKE.out _ hb4 _ _ b2; have xb3 := HKE.out _ hb4 _ _ b3; have xb4 := HKE.out _ hb4 _ _ b4; have xb5 := HKE.out _ hb4 _ _ b5)
        | (go_at_call 43; refine (HS.out wr (Below.refl _ _)).mono ?_; rintro e w4 ⟨rfl, hb4⟩; have xa0 := HKE.out _ hb4 _ _ a0; have xa1 := HKE.out _ hb4 _ _ a1; have xa2 := HKE.out _ hb4 _ _ a2; have xa3 := HKE.out _ hb4 _ _ a3; have xa4 := HKE.out _ hb4 _ _ a4; have xa5 := HKE.out _ hb4 _ _ a5; have xb0 := HKE.out _ hb4 _ _ b0; have xb1 := HKE.out _ hb4 _ _ b1; have xb2 := HKE.out _ hb4 _ _ b2; have xb3 := HKE.out _ hb4 _ _ b3; have xb4 := HKE.out _ hb4 _ _ b4; have xb5 := HKE.out _ hb4 _ _ b5)
        | fail)
      all_goals
        have HB4 := hid (HB.out.trans (hb4.mono HB.out.size))
        go_wp2_with fail
        go_roundg (ps1.length - (k + 1))
        case measure => omega
        case rel => exact ⟨k + 1, by omega, Nat.le_refl _, by go_num, HB4⟩
    · have hlt' : ¬ (k : Int) < (ps1.length : Int) := by omega
      go_wp2_with fail
      go_ret
      exact ⟨rfl, HB.out⟩
end Go.Proofs.Ytlgaianlkbaedaa

/- A small batch. -/
namespace Go.Proofs.Ytlgaianlkbaedaa
open Go.RowKit Go.Maps Go.Sort
set_option linter.unusedSimpArgs false
set_option linter.unusedVariables false

def smallB (base n : Nat) : Bat := ⟨(base : Int), 1, 0, 0, 0, List.replicate n smallR⟩
theorem smallB_body (base n : Nat) : (bodyL (smallB base n)).length ≤ 60 + n * 32 := by
  have h1 := intsL_length (numsOf (smallB base n))
  have h2 := recsL_length 1 (List.replicate n smallR) (fun r hr => by rw [(List.mem_replicate.1 hr).2]; simp [smallR])
  have h6 := intL_length ((smallB base n).recs.length : Int)
  have h7 : (numsOf (smallB base n)).length = 5 := rfl
  have h8 : (smallB base n).recs = List.replicate n smallR := rfl
  rw [List.length_replicate] at h2
  unfold bodyL
  rw [List.length_append, List.length_append]
  rw [h8] at h6 ⊢
  omega
theorem smallB_right (base n : Nat) (h1 : 1 ≤ n) (h2 : n ≤ 30) (h3 : base + n ≤ 1000000000) : rightL (smallB base n) = 0 := by
  have hb := smallB_body base n
  have ht : timesB (List.replicate n smallR) = true := by
    unfold timesB
    rw [List.all_eq_true]
    intro r hr
    rw [(List.mem_replicate.1 hr).2]
    rfl
  have hl : longB (List.replicate n smallR) = false := by
    unfold longB
    rw [List.any_eq_false]
    intro r hr
    rw [(List.mem_replicate.1 hr).2]
    simp [smallR]
  have hn : numsB (smallB base n) = true := by simp [numsB, smallB, inB]
  have ho : overB (smallB base n) = false := by simp [overB, smallB]; omega
  have he : (List.replicate n smallR).isEmpty = false := by cases n with | zero => omega | succ n => rfl
  unfold rightL
  rw [if_neg (by rw [hn]; simp only [smallB]; rw [ht, he]; simp), if_neg (by simp [smallB]; omega), if_neg (by simp only [smallB]; rw [hl]; simp), if_neg (by rw [ho]; simp), if_neg (by omega)]
theorem smallB_len (base n : Nat) (h1 : 1 ≤ n) (h2 : n ≤ 30) (h3 : base + n ≤ 1000000000) : (batchL (smallB base n)).1.length ≤ 68 + n * 32 := by
  have hb := smallB_body base n
  rw [batchL_len (smallB_right base n h1 h2 h3)]
  omega
theorem smallB_fits (m : Mk) (n : Nat) (h1 : 1 ≤ n) (h2 : n ≤ 30) (h3 : m.base + n ≤ 1000000000) (h4 : m.nth + 1 ≤ 4096) : Fits m [smallB m.base n] :=
  ⟨smallB_right m.base n h1 h2 h3, rfl, by simpa [smallB] using h3, h4, trivial⟩
end Go.Proofs.Ytlgaianlkbaedaa

