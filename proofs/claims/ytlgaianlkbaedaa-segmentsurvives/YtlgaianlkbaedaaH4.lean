/- A batch's body, written. -/
import Derived.Test.YtlgaianlkbaedaaH3
namespace Go.Proofs.Ytlgaianlkbaedaa
open Go.RowKit Go.Maps
set_option linter.unusedSimpArgs false
set_option linter.unusedVariables false
set_option maxRecDepth 100000

theorem cell_blk {w : World} {q : Nat} {cs : Array Value} {T : TypeId} {mk : Nat × Nat} (h : w.heap[q]? = some (.cells cs T mk)) (j : Nat) (u : Value) (hu : cs[j]? = some u) : w.cell? ⟨q, j, none⟩ = some u := by
  show (match w.heap[q]? with | some (.cells c _ _) => c[j]? | _ => none) = _
  rw [h]
  exact hu
theorem Row.lt {w : World} {B : Nat} {v : Value} {l : List UInt8} (h : Row w B v l) : ∀ k, v.ownBlock = some k → k < w.heap.size := fun k hk => (World.ownsRow.lt h k hk).2
theorem kept_box {wr w1 : World} {B : Nat} {v v1 : Value} {m : List UInt8} {cs : Array Value} {T : TypeId} (hr : Row wr B v m) (g : Grow (wr.alloc (.cells cs T)) w1 v v1) :
    w1.heap[wr.heap.size]? = some (.cells cs T) ∧ v1.ownBlock ≠ some wr.heap.size ∧ wr.heap.size < w1.heap.size := by
  have h := g.block (q := wr.heap.size) (by simp) (fun e => by have := hr.lt _ e; omega)
  exact ⟨h.1.trans (heap_alloc_new wr _), h.2⟩

/-- Where batchBody stands behind k records. -/
structure BodyAt (w : World) (B : Nat) (b : Bat) (k : Nat) (v : Value) (wr : World) : Prop where
  row : Row wr B v (intsL (numsOf b) ++ intL b.recs.length ++ recsL (b.recs.take k))
  below : Below w.heap.size w wr
  base : w.heap.size ≤ B
  size : B ≤ wr.heap.size

theorem recs_take (rs : List Rec) (k : Nat) (h : k < rs.length) : recsL (rs.take (k + 1)) = recsL (rs.take k) ++ recL rs[k] := by
  rw [List.take_succ_eq_append_getElem h, recsL_snoc]

theorem body_short (b : Bat) (hn : b.recs.length ≤ 64) (ht : ∀ r ∈ b.recs, r.key.length ≤ 1000 ∧ r.val.length ≤ 1000) (k : Nat) : (intsL (numsOf b) ++ intL b.recs.length ++ recsL (b.recs.take k)).length ≤ 1000000 := by
  have h1 := intsL_length (numsOf b)
  have h2 := intL_length (b.recs.length : Int)
  have h3 := recsL_length 1000 (b.recs.take k) (fun r hr => ht r (List.mem_of_mem_take hr))
  have h4 : (b.recs.take k).length ≤ 64 := by simp; omega
  have h5 : (numsOf b).length = 5 := rfl
  have h6 : (b.recs.take k).length * (30 + 2 * 1000) ≤ 64 * (30 + 2 * 1000) := Nat.mul_le_mul_right _ h4
  simp only [List.length_append]
  omega

theorem BodyAt.next {w : World} {B : Nat} {b : Bat} {k : Nat} {v : Value} {wr : World} (h : BodyAt w B b k v wr) (hk : k < b.recs.length) {O : Obj} {w1 w2 w3 : World} {v3 : Value} {M : List UInt8}
    (hM : M = intsL (numsOf b) ++ intL b.recs.length ++ recsL (b.recs.take k)) (r3 : Row w3 B v3 (M ++ intL b.recs[k].time ++ textL b.recs[k].key ++ textL b.recs[k].val)) (b1 : Below B (wr.alloc O) w1) (b2 : Below B w1 w2) (b3 : Below B w2 w3) : BodyAt w B b (k + 1) v3 w3 := by
  have hb := h.base
  have hs := h.size
  refine ⟨?_, ?_, hb, ?_⟩
  · rw [recs_take _ k hk]
    have e : intsL (numsOf b) ++ intL b.recs.length ++ (recsL (b.recs.take k) ++ recL b.recs[k]) = M ++ intL b.recs[k].time ++ textL b.recs[k].key ++ textL b.recs[k].val := by
      rw [hM]; simp [recL]
    rw [e]; exact r3
  · exact (((h.below.alloc (Nat.le_trans hb hs) O).trans (b1.mono hb)).trans (b2.mono hb)).trans (b3.mono hb)
  · have h1 := b1.size; have h2 := b2.size; have h3 := b3.size
    simp at h1; omega

set_option maxHeartbeats 1600000 in
theorem body_any {w : World} (b : Bat) (a : Option Addr) (cap : Nat) (ha : RecsAt w a b.recs) (hi : b.ints) (hok : ∀ r ∈ b.recs, I64 r.time) (hn : b.recs.length ≤ 64) (ht : ∀ r ∈ b.recs, r.key.length ≤ 1000 ∧ r.val.length ≤ 1000) :
    Calls Try.prog 52 #[.agg #[.int .i64 b.base, .int .i64 b.epoch, .int .i64 b.pid, .int .i64 b.pidEpoch, .int .i64 b.seq, .slice a b.recs.length cap]] w fun e w' => e = .returned (.string (strOf (bodyL b))) ∧ Below w.heap.size w w' := by
  have HA := hid ha
  have HOK := hid hok
  have HT := hid ht
  have HS := hid (body_short b hn ht)
  have H47 : Hid (∀ w1 : World, Calls Try.prog 65 #[.slice none 0 0, .slice (some ⟨w1.heap.size, 0, none⟩) 5 5] (w1.alloc (.cells #[.int .i64 b.base, .int .i64 b.epoch, .int .i64 b.pid, .int .i64 b.pidEpoch, .int .i64 b.seq] 105))
      fun e w' => ∃ v', e = .returned v' ∧ Row w' (w1.heap.size + 1) v' (intsL (numsOf b)) ∧ Below (w1.heap.size + 1) (w1.alloc (.cells #[.int .i64 b.base, .int .i64 b.epoch, .int .i64 b.pid, .int .i64 b.pidEpoch, .int .i64 b.seq] 105)) w') := by
    intro w1
    have hIA : IntsAt (w1.alloc (.cells #[.int .i64 b.base, .int .i64 b.epoch, .int .i64 b.pid, .int .i64 b.pidEpoch, .int .i64 b.seq] 105)) (some ⟨w1.heap.size, 0, none⟩) (w1.heap.size + 1) (numsOf b) := by
      refine .inr ⟨w1.heap.size, 0, rfl, by omega, fun i hi => ?_⟩
      have hi5 : i < 5 := hi
      refine cell_new rfl ?_
      match i, hi5 with
      | 0, _ => rfl
      | 1, _ => rfl
      | 2, _ => rfl
      | 3, _ => rfl
      | 4, _ => rfl
    have := appendInts_any (Row.nil (w1.alloc (.cells #[.int .i64 b.base, .int .i64 b.epoch, .int .i64 b.pid, .int .i64 b.pidEpoch, .int .i64 b.seq] 105)) (w1.heap.size + 1)) (by simp) (some ⟨w1.heap.size, 0, none⟩) 5 (numsOf b) hIA (by
      intro n hn
      simp only [numsOf, List.mem_cons, List.not_mem_nil, or_false] at hn
      rcases hn with rfl | rfl | rfl | rfl | rfl
      · exact hi.h0
      · exact hi.h1
      · exact hi.h2
      · exact hi.h3
      · exact hi.h4) (by unfold maxLen; simp [numsOf]) (by simp [numsOf])
    refine this.mono ?_
    rintro e w' ⟨v', rfl, hr, hb, _⟩
    rw [List.nil_append] at hr
    exact ⟨v', rfl, hr, hb⟩
  have hnl : (b.recs.length : Int) ≤ 64 := by omega
  have HE : Hid (bodyL b = intsL (numsOf b) ++ intL b.recs.length ++ recsL b.recs) := rfl
  have hL5 : (intsL (numsOf b)).length ≤ 50 := intsL_length (numsOf b)
  clear ha hok ht hi
  go_enter Try.func52, Try.ntmps52
  go_wp2_with (go_at_call 64; refine (numbers_any _ _ _ _ _ _ _ _ _).mono ?_; rintro e w1 ⟨rfl, hb1⟩)
  have c5 := box_cell hb1 5 _ rfl
  have hs1 := hb1.size
  have HB1 := hid hb1
  clear hb1
  go_wp2_with (go_at_call 65; refine (H47.out _).mono ?_; rintro e w2 ⟨v2, rfl, hr2, hb2⟩; have c52 := (hb2.cell (p := ⟨w.heap.size, 5, none⟩) (by simp at hs1 ⊢; omega)).trans ((World.cell?_of_block (a := ⟨w.heap.size, 5, none⟩) (Below.heap_alloc w1 _ w.heap.size (by simp at hs1; omega))).trans c5))
  have hs2 := hb2.size
  have hB2 : w1.heap.size + 1 ≤ w2.heap.size := by simpa using hs2
  have H30 := hid (appendInt_any hr2 hB2 (by omega) (b.recs.length : Int) ⟨by omega, by omega⟩)
  have HB2 : Hid (Below w.heap.size w w2) := (((Below.refl _ w).alloc (Nat.le_refl _) _).trans (HB1.out.mono (by simp))).trans (((Below.refl _ w1).alloc (by simp at hs1; omega) _).trans (hb2.mono (by simp at hs1; omega)))
  have HC2 : Hid (∀ w3, Below (w1.heap.size + 1) w2 w3 → w3.cell? ⟨w.heap.size, 5, none⟩ = some (.slice a b.recs.length cap)) := fun w3 h3 => (h3.cell (p := ⟨w.heap.size, 5, none⟩) (by simp at hs1 ⊢; omega)).trans c52
  have hBw : w.heap.size ≤ w1.heap.size + 1 := by simp at hs1; omega
  clear hr2 hb2 c5 HB1 H47
  go_wp2_with (go_at_call 66; refine H30.out.mono ?_; rintro e w3 ⟨v3, rfl, hr3, hb3, _⟩; have c53 := HC2.out w3 hb3)
  have H0 : Hid (BodyAt w (w1.heap.size + 1) b 0 v3 w3) := ⟨by simpa [recsL] using hr3, HB2.out.trans (hb3.mono hBw), hBw, Nat.le_trans hB2 hb3.size⟩
  generalize w1.heap.size + 1 = B at *
  clear hr3 hb3 HC2 H30 c52 c53 HB2 hs1 hs2 hB2
  go_loopg [4, 19] b.recs.length (fun kx s4 s19 wr => ∃ (k : Nat) (sv : Value), k ≤ b.recs.length ∧ b.recs.length - k ≤ kx ∧ s19 = .int .i64 k ∧ sv = s4 ∧ Hid (BodyAt w B b k sv wr))
  case atStart => exact ⟨0, _, by omega, by omega, rfl, rfl, H0⟩
  case round =>
    obtain ⟨k, sv, hk, hkx, rfl, rfl, HD⟩ := hrel
    clear H0
    by_cases hlt : k < b.recs.length
    · have hlt' : (k : Int) < (b.recs.length : Int) := by omega
      obtain ⟨rb, off, rfl, hbl, hc0, hc1, hc2⟩ := Recs.at (cap := cap) (HA.out.under HD.out.below) k hlt
      have hI := HOK.out _ (List.getElem_mem hlt)
      have hTx := HT.out _ (List.getElem_mem hlt)
      have hMs := HS.out k
      have hrow := HD.out.row
      have hsz := HD.out.size
      have HN : Hid (∀ (O : Obj) (w1 w2 w3 : World) (v3 : Value) (M : List UInt8), M = intsL (numsOf b) ++ intL b.recs.length ++ recsL (b.recs.take k) → Row w3 B v3 (M ++ intL b.recs[k].time ++ textL b.recs[k].key ++ textL b.recs[k].val) → Below B (wr.alloc O) w1 → Below B w1 w2 → Below B w2 w3 → BodyAt w B b (k + 1) v3 w3) := fun O w1 w2 w3 v3 M hM r3 b1 b2 b3 => HD.out.next hlt hM r3 b1 b2 b3
      obtain ⟨M, hM⟩ : ∃ M, M = intsL (numsOf b) ++ intL b.recs.length ++ recsL (b.recs.take k) := ⟨_, rfl⟩
      have HM := hid hM
      rw [← hM] at hrow hMs
      clear hM
      generalize b.recs[k] = R at *
      have hlT := intL_length R.time
      have hlK := textL_length R.key
      have G1 : Hid (∀ O, Calls Try.prog 66 #[sv, .int .i64 R.time] (wr.alloc O) fun e w' => ∃ v', e = .returned v' ∧ Row w' B v' (M ++ intL R.time) ∧ Below B (wr.alloc O) w' ∧ Grow (wr.alloc O) w' sv v') := fun O =>
        appendInt_any (hrow.alloc O) (by simp; omega) (by omega) R.time hI
      have G2 : Hid (∀ w1 v1, Row w1 B v1 (M ++ intL R.time) → B ≤ w1.heap.size → Calls Try.prog 67 #[v1, .string (strOf R.key)] w1 fun e w' => ∃ v', e = .returned v' ∧ Row w' B v' (M ++ intL R.time ++ textL R.key) ∧ Below B w1 w' ∧ Grow w1 w' v1 v') := fun w1 v1 h1 h2 =>
        appendText_any h1 h2 R.key (by simp only [List.length_append]; omega)
      have G3 : Hid (∀ w1 v1, Row w1 B v1 (M ++ intL R.time ++ textL R.key) → B ≤ w1.heap.size → Calls Try.prog 67 #[v1, .string (strOf R.val)] w1 fun e w' => ∃ v', e = .returned v' ∧ Row w' B v' (M ++ intL R.time ++ textL R.key ++ textL R.val) ∧ Below B w1 w' ∧ Grow w1 w' v1 v') := fun w1 v1 h1 h2 =>
        appendText_any h1 h2 R.val (by simp only [List.length_append]; omega)
      have hrowH := hid hrow
      clear hrow hlT hlK hMs hI hTx
      go_wp2_with fail
      refine (G1.out _).mono ?_
      rintro e w4 ⟨v4, rfl, r4, b4, g4⟩
      obtain ⟨x4, y4, z4⟩ := kept_box hrowH.out g4
      have X4 := hid x4
      have d4 := cell_blk x4 0 (.string (strOf R.key)) rfl
      clear x4
      go_wp2_with fail
      have s4 : B ≤ w4.heap.size := by have := b4.size; simp at this; omega
      refine (G2.out _ _ r4 s4).mono ?_
      rintro e w5 ⟨v5, rfl, r5, b5, g5⟩
      obtain ⟨x5, y5, z5⟩ := g5.block z4 y4
      have d5 := cell_blk (x5.trans X4.out) 1 (.string (strOf R.val)) rfl
      clear x5 y5 z5
      have s5 : B ≤ w5.heap.size := Nat.le_trans s4 b5.size
      go_wp2_with fail
      refine (G3.out _ _ r5 s5).mono ?_
      rintro e w6 ⟨v6, rfl, r6, b6, g6⟩
      have HF : Hid (BodyAt w B b (k + 1) v6 w6) := HN.out _ _ _ _ _ _ HM.out r6 b4 b5 b6
      clear r6 b6 g6 r5 b5 g5 r4 b4 g4 G1 G2 G3
      go_wp2
      go_roundg (b.recs.length - (k + 1))
      case measure => omega
      case rel => exact ⟨k + 1, v6, by omega, Nat.le_refl _, by go_num, rfl, HF⟩
    · have hlt' : ¬ (k : Int) < (b.recs.length : Int) := by omega
      have hrow := HD.out.row
      rw [List.take_of_length_le (by omega), ← HE.out] at hrow
      have hcv := hrow.conv
      obtain ⟨ra, rcap, hv⟩ := hrow.shape
      subst hv
      clear hrow
      go_wp2
      go_ret
      exact ⟨rfl, HD.out.below⟩
end Go.Proofs.Ytlgaianlkbaedaa

