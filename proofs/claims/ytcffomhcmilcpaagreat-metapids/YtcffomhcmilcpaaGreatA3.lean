/- Lists that are made: round and round, ids of a topic; a new partition; a name. -/
import Derived.Test.YtcffomhcmilcpaaGreatA2
import Derived.Shelf.Pu.Clone
namespace Go.Proofs.YtcffomhcmilcpaaGreat
open Go.RowKit Go.Maps
set_option maxRecDepth 100000
set_option linter.unusedSimpArgs false
set_option linter.unusedVariables false

def fillA (f : Nat → Int) (k n : Nat) : Array Value := ((List.range n).map fun i => Value.int .i64 (if i < k then f i else 0)).toArray
theorem fillA_size (f : Nat → Int) (k n : Nat) : (fillA f k n).size = n := by simp [fillA]
theorem fillA_get (f : Nat → Int) (k n i : Nat) (hi : i < n) : (fillA f k n)[i]? = some (.int .i64 (if i < k then f i else 0)) := by
  simp [fillA, hi]
theorem fillA_set (f : Nat → Int) (k n : Nat) : (fillA f k n).setIfInBounds k (.int .i64 (f k)) = fillA f (k + 1) n := by
  apply Array.ext_getElem?
  intro i
  rw [Array.getElem?_setIfInBounds]
  by_cases h : i < n
  · rw [fillA_get f k n i h, fillA_get f (k + 1) n i h]
    by_cases e : k = i
    · subst e
      simp [fillA_size, h]
    · have : (i < k + 1) ↔ i < k := by omega
      simp [e, this]
  · have h1 : (fillA f k n)[i]? = none := Array.getElem?_eq_none (by rw [fillA_size]; omega)
    have h2 : (fillA f (k + 1) n)[i]? = none := Array.getElem?_eq_none (by rw [fillA_size]; omega)
    rw [h1, h2]
    split
    · rw [fillA_size, if_neg (by omega)]
    · rfl
theorem info3b : ∃ i, Tryz.prog.info? 3 = some i ∧ i.zero = some (.int .i64 0) ∧ i.size = 1 ∧ i.bytes = 8 := ⟨_, rfl, rfl, rfl, rfl⟩
theorem make23 (f : Nat → Int) (w : World) (n : Nat) (hn : n ≤ 1000) : (Instr.makeSlice 23 (.int .i64 (n : Int)) (.int .i64 (n : Int))).run Tryz.prog w = .ok (.slice (some ⟨w.heap.size, 0, none⟩) n n) (w.alloc (.cells (fillA f 0 n) 3)) := by
  obtain ⟨i, h1, h2, h3, h4⟩ := info3b
  have := run_makeSlice (P := Tryz.prog) w 23 3 i _ Tryz.underlying23 h1 h2 .i64 .i64 (n : Int) (n : Int) (by omega) (Int.le_refl _) (by rw [h3]; simp; omega) (by rw [h4]; omega) (by omega)
  rw [this, h3]
  have e : madeCells #[Value.int .i64 0] (n * 1) = fillA f 0 n := by
    apply Array.ext_getElem?
    intro i
    by_cases h : i < n
    · rw [fillA_get f 0 n i h]
      simp [madeCells, h, Nat.mod_one]
    · have h1 : (fillA f 0 n)[i]? = none := Array.getElem?_eq_none (by rw [fillA_size]; omega)
      have h2 : (madeCells #[Value.int .i64 0] (n * 1))[i]? = none := Array.getElem?_eq_none (by simp [madeCells]; omega)
      rw [h1, h2]
  rw [show (Value.int IntKind.i64 0).cells = #[Value.int .i64 0] from rfl]
  simp only [Int.toNat_natCast]
  rw [e]
theorem il_fill {w : World} {f : Nat → Int} {g n : Nat} (h : w.heap[g]? = some (.cells (fillA f n n) 3)) (hf : ∀ i, i < n → I64 (f i)) (hn : n ≤ 1000) : IL w (.slice (some ⟨g, 0, none⟩) n n) ((List.range n).map f) := by
  refine ⟨⟨some ⟨g, 0, none⟩, n, by simp, by simp, by unfold maxLen; omega, (fun h => by cases h), fun _ => ⟨g, 0, rfl, (Array.getElem?_eq_some_iff.1 h).1, fun i hi => ?_⟩⟩, fun x hx => ?_, by simp; omega⟩
  · have hi' : i < n := by simpa using hi
    refine cell_blk h _ _ ?_
    rw [Nat.zero_add, fillA_get f n n i hi', if_pos hi']
    simp
  · obtain ⟨i, hi, rfl⟩ := List.mem_map.1 hx
    exact hf i (List.mem_range.1 hi)
set_option maxHeartbeats 1600000 in
theorem round_any {w : World} {v : Value} {l : List Int} (h : IL w v l) (hl : 0 < l.length) (p n : Nat) (hp : p ≤ 100) (hn : n ≤ 100) (hll : l.length ≤ 100) : Calls Tryz.prog 121 #[v, .int .i64 (p : Int), .int .i64 (n : Int)] w fun e w' => ∃ v', e = .returned v' ∧ IL w' v' (roundL l p n) ∧ In (fun b => w.heap.size ≤ b) v' (roundL l p n) ∧ Below w.heap.size w w' := by
  obtain ⟨⟨a, cap, rfl, hcap, hcm, hnn, hat⟩, hok, hfew⟩ := h
  obtain ⟨b, off, rfl, hb, hc⟩ := hat (by intro e; rw [e] at hl; simp at hl)
  have HF : Hid (∀ i, i < n → ∃ j : Nat, j < l.length ∧ (p + i) % l.length = j ∧ ((p : Int) + (i : Int)).tmod (l.length : Int) = (j : Int) ∧ ((p : Int) + (i : Int)) % (l.length : Int) = (j : Int)) := fun i hi => by
    have e : ((p : Int) + (i : Int)) % (l.length : Int) = (((p + i) % l.length : Nat) : Int) := by push_cast; rfl
    exact ⟨(p + i) % l.length, Nat.mod_lt _ hl, rfl, by rw [Int.tmod_eq_emod_of_nonneg (by omega)]; exact e, e⟩
  have HC := hid hc
  have HMK := hid (fun w => make23 (fun i => (l[(p + i) % l.length]?).getD 0) w n (by omega))
  have HOK := hid hok
  have hmk := HMK.out w
  clear hc HMK hok hnn hat
  go_enter Tryz.func121, Tryz.ntmps121
  go_wp2_with fail
  have HB0 := hid (heap_alloc_new w (.cells (fillA (fun i => (l[(p + i) % l.length]?).getD 0) 0 n) 3))
  have HW0 : Hid (Below w.heap.size w (w.alloc (.cells (fillA (fun i => (l[(p + i) % l.length]?).getD 0) 0 n) 3))) := (Below.refl _ _).alloc (Nat.le_refl _) _
  clear hmk
  generalize w.alloc (.cells (fillA (fun i => (l[(p + i) % l.length]?).getD 0) 0 n) 3) = W0 at *
  go_loopg [13] n (fun kx s13 wr => ∃ k : Nat, k ≤ n ∧ n - k ≤ kx ∧ s13 = .int .i64 (k : Int) ∧ Hid (wr.heap[w.heap.size]? = some (.cells (fillA (fun i => (l[(p + i) % l.length]?).getD 0) k n) 3) ∧ Below w.heap.size w wr))
  case atStart => exact ⟨0, Nat.zero_le _, by omega, rfl, HB0.out, HW0.out⟩
  case round =>
    obtain ⟨k, hk, hkx, rfl, HR⟩ := hrel
    by_cases hlt : k < n
    · obtain ⟨j, hj, ej, t1, t2⟩ := HF.out k hlt
      have hck := kept_cell HR.out.2 (HC.out j hj)
      have e1 : (l[(p + k) % l.length]?).getD 0 = l[j] := by rw [ej]; simp [hj]
      have hix := HOK.out l[j] (by simp)
      unfold I64 at hix
      have HS := hid (set_box (j := k) (v := .int .i64 l[j]) HR.out.1)
      rw [← e1] at HS
      rw [fillA_set (fun i => (l[(p + i) % l.length]?).getD 0) k n, e1] at HS
      have HW : Hid (Below w.heap.size w (wr.setCell ⟨w.heap.size, k, none⟩ (.int .i64 l[j]))) := HR.out.2.setCell (Nat.le_refl _) _
      have hcw := cell_blk HR.out.1 k _ (fillA_get _ k n k hlt)
      have hfw := frz_blk HR.out.1 k
      generalize l[j] = y at *
      clear e1 ej HR HC
      have g1 : (k : Int) < (n : Int) := by omega
      have g2 : (j : Int) < (l.length : Int) := by omega
      have g3 : IntKind.i64.wrap ((p : Int) + (k : Int)) = (p : Int) + (k : Int) := IntWalk.i64_in _ ⟨by omega, by omega⟩
      have g4 : (l.length : Int) ≠ 0 := by omega
      go_wp2_with fail
      go_roundg (n - (k + 1))
      case measure => omega
      case rel => exact ⟨k + 1, by omega, Nat.le_refl _, by go_num, HS.out, HW.out⟩
    · have hkn : k = n := by omega
      have HR' := HR
      rw [hkn] at HR'
      have hlt' : ¬ (k : Int) < (n : Int) := by omega
      go_wp2_with fail
      go_ret
      refine ⟨_, rfl, il_fill HR'.out.1 (fun i hi => ?_) (by omega), fun _ b off n c e => by cases e; exact Nat.le_refl _, HR'.out.2⟩
      obtain ⟨j, hj, ej, _⟩ := HF.out i hi
      have : (l[(p + i) % l.length]?).getD 0 = l[j] := by rw [ej]; simp [hj]
      rw [this]
      exact HOK.out l[j] (by simp)
end Go.Proofs.YtcffomhcmilcpaaGreat
