/- What is read of a message: which parts are told, numbers, batches, entries; lists. -/
import Derived.Test.YtocdlaoklagdoaaDoorG4
import Derived.Test.YtocdlaoklagdoaaDoorRbatch
import Derived.Test.YtocdlaoklagdoaaDoorMn
namespace Go.Proofs.YtocdlaoklagdoaaDoor
open Go.RowKit Go.Maps
set_option linter.unusedSimpArgs false
set_option linter.unusedVariables false
set_option maxRecDepth 100000

theorem i64_and_one (x : Int) : bits .and .i64 x 1 = x % 2 := by
  show IntKind.i64.wrap ((BitVec.ofInt 64 x &&& BitVec.ofInt 64 1).toNat : Int) = _
  have e1 : (BitVec.ofInt 64 1).toNat = 1 := by decide
  have e2 : (BitVec.ofInt 64 x).toNat = (x % 18446744073709551616).toNat := by rw [BitVec.toNat_ofInt]; rfl
  rw [BitVec.toNat_and, e1, e2, nat_mask1, IntKind.wrap_i64]
  omega

theorem has0 (p : Int) (hp : I64 p) (w : World) : Calls Tryd.prog 54 #[.int .i64 p, .int .i64 0] w fun e w' => e = .returned (.bool (hasB p 0)) ∧ w' = w := by
  obtain ⟨h1, h2⟩ := hp
  have HF : Hid (hasB p 0 = (p % 2 == 1)) := by show _ = _; simp [hasB]; rfl
  have ha := i64_and_one (p)
  generalize hasB p 0 = R at *
  go_enter Tryd.func54, Tryd.ntmps54
  go_wp2
  go_ret
  exact ⟨ret_bool (by rw [HF.out]), rfl⟩
theorem has1 (p : Int) (hp : I64 p) (w : World) : Calls Tryd.prog 54 #[.int .i64 p, .int .i64 1] w fun e w' => e = .returned (.bool (hasB p 1)) ∧ w' = w := by
  obtain ⟨h1, h2⟩ := hp
  have HF : Hid (hasB p 1 = (p / 2 % 2 == 1)) := by show _ = _; rfl
  have ha := i64_and_one (p / 2)
  generalize hasB p 1 = R at *
  go_enter Tryd.func54, Tryd.ntmps54
  go_wp2
  go_ret
  exact ⟨ret_bool (by rw [HF.out]), rfl⟩
theorem has2 (p : Int) (hp : I64 p) (w : World) : Calls Tryd.prog 54 #[.int .i64 p, .int .i64 2] w fun e w' => e = .returned (.bool (hasB p 2)) ∧ w' = w := by
  obtain ⟨h1, h2⟩ := hp
  have HF : Hid (hasB p 2 = (p / 4 % 2 == 1)) := by show _ = _; rfl
  have ha := i64_and_one (p / 4)
  generalize hasB p 2 = R at *
  go_enter Tryd.func54, Tryd.ntmps54
  go_wp2
  go_ret
  exact ⟨ret_bool (by rw [HF.out]), rfl⟩
theorem has3 (p : Int) (hp : I64 p) (w : World) : Calls Tryd.prog 54 #[.int .i64 p, .int .i64 3] w fun e w' => e = .returned (.bool (hasB p 3)) ∧ w' = w := by
  obtain ⟨h1, h2⟩ := hp
  have HF : Hid (hasB p 3 = (p / 8 % 2 == 1)) := by show _ = _; rfl
  have ha := i64_and_one (p / 8)
  generalize hasB p 3 = R at *
  go_enter Tryd.func54, Tryd.ntmps54
  go_wp2
  go_ret
  exact ⟨ret_bool (by rw [HF.out]), rfl⟩
theorem has4 (p : Int) (hp : I64 p) (w : World) : Calls Tryd.prog 54 #[.int .i64 p, .int .i64 4] w fun e w' => e = .returned (.bool (hasB p 4)) ∧ w' = w := by
  obtain ⟨h1, h2⟩ := hp
  have HF : Hid (hasB p 4 = (p / 16 % 2 == 1)) := by show _ = _; rfl
  have ha := i64_and_one (p / 16)
  generalize hasB p 4 = R at *
  go_enter Tryd.func54, Tryd.ntmps54
  go_wp2
  go_ret
  exact ⟨ret_bool (by rw [HF.out]), rfl⟩
theorem has5 (p : Int) (hp : I64 p) (w : World) : Calls Tryd.prog 54 #[.int .i64 p, .int .i64 5] w fun e w' => e = .returned (.bool (hasB p 5)) ∧ w' = w := by
  obtain ⟨h1, h2⟩ := hp
  have HF : Hid (hasB p 5 = (p / 32 % 2 == 1)) := by show _ = _; rfl
  have ha := i64_and_one (p / 32)
  generalize hasB p 5 = R at *
  go_enter Tryd.func54, Tryd.ntmps54
  go_wp2
  go_ret
  exact ⟨ret_bool (by rw [HF.out]), rfl⟩
theorem has6 (p : Int) (hp : I64 p) (w : World) : Calls Tryd.prog 54 #[.int .i64 p, .int .i64 6] w fun e w' => e = .returned (.bool (hasB p 6)) ∧ w' = w := by
  obtain ⟨h1, h2⟩ := hp
  have HF : Hid (hasB p 6 = (p / 64 % 2 == 1)) := by show _ = _; rfl
  have ha := i64_and_one (p / 64)
  generalize hasB p 6 = R at *
  go_enter Tryd.func54, Tryd.ntmps54
  go_wp2
  go_ret
  exact ⟨ret_bool (by rw [HF.out]), rfl⟩
theorem has7 (p : Int) (hp : I64 p) (w : World) : Calls Tryd.prog 54 #[.int .i64 p, .int .i64 7] w fun e w' => e = .returned (.bool (hasB p 7)) ∧ w' = w := by
  obtain ⟨h1, h2⟩ := hp
  have HF : Hid (hasB p 7 = (p / 128 % 2 == 1)) := by show _ = _; rfl
  have ha := i64_and_one (p / 128)
  generalize hasB p 7 = R at *
  go_enter Tryd.func54, Tryd.ntmps54
  go_wp2
  go_ret
  exact ⟨ret_bool (by rw [HF.out]), rfl⟩
theorem has8 (p : Int) (hp : I64 p) (w : World) : Calls Tryd.prog 54 #[.int .i64 p, .int .i64 8] w fun e w' => e = .returned (.bool (hasB p 8)) ∧ w' = w := by
  obtain ⟨h1, h2⟩ := hp
  have HF : Hid (hasB p 8 = (p / 256 % 2 == 1)) := by show _ = _; rfl
  have ha := i64_and_one (p / 256)
  generalize hasB p 8 = R at *
  go_enter Tryd.func54, Tryd.ntmps54
  go_wp2
  go_ret
  exact ⟨ret_bool (by rw [HF.out]), rfl⟩
theorem has9 (p : Int) (hp : I64 p) (w : World) : Calls Tryd.prog 54 #[.int .i64 p, .int .i64 9] w fun e w' => e = .returned (.bool (hasB p 9)) ∧ w' = w := by
  obtain ⟨h1, h2⟩ := hp
  have HF : Hid (hasB p 9 = (p / 512 % 2 == 1)) := by show _ = _; rfl
  have ha := i64_and_one (p / 512)
  generalize hasB p 9 = R at *
  go_enter Tryd.func54, Tryd.ntmps54
  go_wp2
  go_ret
  exact ⟨ret_bool (by rw [HF.out]), rfl⟩
theorem has10 (p : Int) (hp : I64 p) (w : World) : Calls Tryd.prog 54 #[.int .i64 p, .int .i64 10] w fun e w' => e = .returned (.bool (hasB p 10)) ∧ w' = w := by
  obtain ⟨h1, h2⟩ := hp
  have HF : Hid (hasB p 10 = (p / 1024 % 2 == 1)) := by show _ = _; rfl
  have ha := i64_and_one (p / 1024)
  generalize hasB p 10 = R at *
  go_enter Tryd.func54, Tryd.ntmps54
  go_wp2
  go_ret
  exact ⟨ret_bool (by rw [HF.out]), rfl⟩
theorem has11 (p : Int) (hp : I64 p) (w : World) : Calls Tryd.prog 54 #[.int .i64 p, .int .i64 11] w fun e w' => e = .returned (.bool (hasB p 11)) ∧ w' = w := by
  obtain ⟨h1, h2⟩ := hp
  have HF : Hid (hasB p 11 = (p / 2048 % 2 == 1)) := by show _ = _; rfl
  have ha := i64_and_one (p / 2048)
  generalize hasB p 11 = R at *
  go_enter Tryd.func54, Tryd.ntmps54
  go_wp2
  go_ret
  exact ⟨ret_bool (by rw [HF.out]), rfl⟩
theorem has12 (p : Int) (hp : I64 p) (w : World) : Calls Tryd.prog 54 #[.int .i64 p, .int .i64 12] w fun e w' => e = .returned (.bool (hasB p 12)) ∧ w' = w := by
  obtain ⟨h1, h2⟩ := hp
  have HF : Hid (hasB p 12 = (p / 4096 % 2 == 1)) := by show _ = _; rfl
  have ha := i64_and_one (p / 4096)
  generalize hasB p 12 = R at *
  go_enter Tryd.func54, Tryd.ntmps54
  go_wp2
  go_ret
  exact ⟨ret_bool (by rw [HF.out]), rfl⟩
theorem has13 (p : Int) (hp : I64 p) (w : World) : Calls Tryd.prog 54 #[.int .i64 p, .int .i64 13] w fun e w' => e = .returned (.bool (hasB p 13)) ∧ w' = w := by
  obtain ⟨h1, h2⟩ := hp
  have HF : Hid (hasB p 13 = (p / 8192 % 2 == 1)) := by show _ = _; rfl
  have ha := i64_and_one (p / 8192)
  generalize hasB p 13 = R at *
  go_enter Tryd.func54, Tryd.ntmps54
  go_wp2
  go_ret
  exact ⟨ret_bool (by rw [HF.out]), rfl⟩
theorem has14 (p : Int) (hp : I64 p) (w : World) : Calls Tryd.prog 54 #[.int .i64 p, .int .i64 14] w fun e w' => e = .returned (.bool (hasB p 14)) ∧ w' = w := by
  obtain ⟨h1, h2⟩ := hp
  have HF : Hid (hasB p 14 = (p / 16384 % 2 == 1)) := by show _ = _; rfl
  have ha := i64_and_one (p / 16384)
  generalize hasB p 14 = R at *
  go_enter Tryd.func54, Tryd.ntmps54
  go_wp2
  go_ret
  exact ⟨ret_bool (by rw [HF.out]), rfl⟩
theorem has15 (p : Int) (hp : I64 p) (w : World) : Calls Tryd.prog 54 #[.int .i64 p, .int .i64 15] w fun e w' => e = .returned (.bool (hasB p 15)) ∧ w' = w := by
  obtain ⟨h1, h2⟩ := hp
  have HF : Hid (hasB p 15 = (p / 32768 % 2 == 1)) := by show _ = _; rfl
  have ha := i64_and_one (p / 32768)
  generalize hasB p 15 = R at *
  go_enter Tryd.func54, Tryd.ntmps54
  go_wp2
  go_ret
  exact ⟨ret_bool (by rw [HF.out]), rfl⟩
theorem has16 (p : Int) (hp : I64 p) (w : World) : Calls Tryd.prog 54 #[.int .i64 p, .int .i64 16] w fun e w' => e = .returned (.bool (hasB p 16)) ∧ w' = w := by
  obtain ⟨h1, h2⟩ := hp
  have HF : Hid (hasB p 16 = (p / 65536 % 2 == 1)) := by show _ = _; rfl
  have ha := i64_and_one (p / 65536)
  generalize hasB p 16 = R at *
  go_enter Tryd.func54, Tryd.ntmps54
  go_wp2
  go_ret
  exact ⟨ret_bool (by rw [HF.out]), rfl⟩
theorem has17 (p : Int) (hp : I64 p) (w : World) : Calls Tryd.prog 54 #[.int .i64 p, .int .i64 17] w fun e w' => e = .returned (.bool (hasB p 17)) ∧ w' = w := by
  obtain ⟨h1, h2⟩ := hp
  have HF : Hid (hasB p 17 = (p / 131072 % 2 == 1)) := by show _ = _; rfl
  have ha := i64_and_one (p / 131072)
  generalize hasB p 17 = R at *
  go_enter Tryd.func54, Tryd.ntmps54
  go_wp2
  go_ret
  exact ⟨ret_bool (by rw [HF.out]), rfl⟩
theorem has18 (p : Int) (hp : I64 p) (w : World) : Calls Tryd.prog 54 #[.int .i64 p, .int .i64 18] w fun e w' => e = .returned (.bool (hasB p 18)) ∧ w' = w := by
  obtain ⟨h1, h2⟩ := hp
  have HF : Hid (hasB p 18 = (p / 262144 % 2 == 1)) := by show _ = _; rfl
  have ha := i64_and_one (p / 262144)
  generalize hasB p 18 = R at *
  go_enter Tryd.func54, Tryd.ntmps54
  go_wp2
  go_ret
  exact ⟨ret_bool (by rw [HF.out]), rfl⟩
theorem has19 (p : Int) (hp : I64 p) (w : World) : Calls Tryd.prog 54 #[.int .i64 p, .int .i64 19] w fun e w' => e = .returned (.bool (hasB p 19)) ∧ w' = w := by
  obtain ⟨h1, h2⟩ := hp
  have HF : Hid (hasB p 19 = (p / 524288 % 2 == 1)) := by show _ = _; rfl
  have ha := i64_and_one (p / 524288)
  generalize hasB p 19 = R at *
  go_enter Tryd.func54, Tryd.ntmps54
  go_wp2
  go_ret
  exact ⟨ret_bool (by rw [HF.out]), rfl⟩
theorem has_any (p : Int) (hp : I64 p) (i : Nat) (hi : i < 20) (w : World) : Calls Tryd.prog 54 #[.int .i64 p, .int .i64 (i : Int)] w fun e w' => e = .returned (.bool (hasB p i)) ∧ w' = w := by
  have hi' : i = 0 ∨ i = 1 ∨ i = 2 ∨ i = 3 ∨ i = 4 ∨ i = 5 ∨ i = 6 ∨ i = 7 ∨ i = 8 ∨ i = 9 ∨ i = 10 ∨ i = 11 ∨ i = 12 ∨ i = 13 ∨ i = 14 ∨ i = 15 ∨ i = 16 ∨ i = 17 ∨ i = 18 ∨ i = 19 := by omega
  rcases hi' with rfl | rfl | rfl | rfl | rfl | rfl | rfl | rfl | rfl | rfl | rfl | rfl | rfl | rfl | rfl | rfl | rfl | rfl | rfl | rfl
  · exact has0 p hp w
  · exact has1 p hp w
  · exact has2 p hp w
  · exact has3 p hp w
  · exact has4 p hp w
  · exact has5 p hp w
  · exact has6 p hp w
  · exact has7 p hp w
  · exact has8 p hp w
  · exact has9 p hp w
  · exact has10 p hp w
  · exact has11 p hp w
  · exact has12 p hp w
  · exact has13 p hp w
  · exact has14 p hp w
  · exact has15 p hp w
  · exact has16 p hp w
  · exact has17 p hp w
  · exact has18 p hp w
  · exact has19 p hp w

theorem size50 : (Tryd.prog.info? 50).map (·.size) = some 6 := by kernel_rfl
theorem grown_setRow {w w3 : World} {q : Nat} (hg : w.grownBy w3 (some q)) (b : Nat) (cs : Array Value) (hb : w.heap.size ≤ b) : w.grownBy (w3.setRow b cs) (some q) :=
  ⟨hg.os, hg.tape, hg.output, by rw [setRow_size]; exact hg.size, fun k hk hne => (setRow_other w3 b k cs (by omega)).trans (hg.block k hk hne)⟩
theorem Pd.row {w : World} {q : Nat} {s : RS} (h : Pd w q s) (b : Nat) (cs : Array Value) (hb : q ≠ b) : Pd (w.setRow b cs) q s := h.kept (setRow_other w b q cs hb)
theorem bat_facts {w w2 : World} {q : Nat} {s : RS} {O : Obj} (h : Pd w q s) (hb2 : Below (w.alloc O).heap.size (w.alloc O) w2) (O2 : Obj) :
    Pd (w2.alloc O2) q s ∧ (w2.alloc O2).heap[w.heap.size]? = some O ∧ w.grownBy (w2.alloc O2) (some q) ∧ w.heap.size < w2.heap.size ∧ (w2.alloc O2).heap[w2.heap.size]? = some O2 ∧ q < w.heap.size := by
  have hlt := h.lt
  have hs : w.heap.size < w2.heap.size := by have := hb2.size; simp at this; omega
  have hX := (Boxed.laid w O).next hb2
  refine ⟨h.kept ?_, ?_, ?_, hs, heap_alloc_new _ _, hlt⟩
  · rw [Below.heap_alloc w2 O2 q (by omega)]
    exact hX.below.block q hlt
  · rw [Below.heap_alloc w2 O2 _ hs]
    exact hX.box
  · exact (grown_below hX.below).trans (World.grownBy_alloc _ _ _)
theorem readBatchL_len (l : List UInt8) : (readBatchL l).2.1 ≤ l.length := by
  unfold readBatchL
  split
  · simp
  · split
    · simp
    · split
      · simp
      · split
        · simp
        · split
          · simp
          · simp only; omega

set_option maxHeartbeats 1600000 in
theorem pBatch_any {w : World} {q : Nat} {s : RS} (h : Pd w q s) : Calls Tryd.prog 57 #[.pointer (some ⟨q, 0, none⟩)] w fun e w' => ∃ a cap, e = .returned (.agg #[.int .i64 (batS s).1.base, .int .i64 (batS s).1.epoch, .int .i64 (batS s).1.pid, .int .i64 (batS s).1.pidEpoch, .int .i64 (batS s).1.seq, .slice a (batS s).1.recs.length cap]) ∧ Pd w' q (batS s).2 ∧ w.grownBy w' (some q) ∧ Recs w' (.slice a (batS s).1.recs.length cap) (batS s).1.recs ∧ ∀ k, (Value.slice a (batS s).1.recs.length cap).ownBlock = some k → w.heap.size ≤ k := by
  have hlen := h.len
  have H82 := hid (fun W => readBatch_any (w := W) s.rest hlen)
  have hkl := readBatchL_len s.rest
  have HN : Hid (batS s = if (readBatchL s.rest).2.2 = 0 then ((readBatchL s.rest).1, ⟨s.rest.drop (readBatchL s.rest).2.1, s.wrong⟩) else (zeroBat, spoiled)) := rfl
  have hlt := h.lt
  have HR0 : Hid (Pd (w.alloc (.cells #[.int .i64 0, .int .i64 0, .int .i64 0, .int .i64 0, .int .i64 0, .slice none 0 0] 50)) q s) := h.kept (Below.heap_alloc w _ q hlt)
  have c0 := HR0.out.c0
  have HB := hid (fun w2 hb O2 => bat_facts (O := (.cells #[.int .i64 0, .int .i64 0, .int .i64 0, .int .i64 0, .int .i64 0, .slice none 0 0] 50)) (w2 := w2) h hb O2)
  unfold maxLen at hlen
  have hsz := strOf_size s.rest
  clear h HR0
  generalize readBatchL s.rest = R at *
  obtain ⟨b, k, e⟩ := R
  simp only at *
  by_cases he : e = 0
  · subst he
    have hx := extract_drop s.rest k
    have HF : Hid (batS s = (b, ⟨s.rest.drop k, s.wrong⟩)) := by show _ = _; rw [HN.out, if_pos rfl]
    have hk' : (k : Int) ≤ ((strOf s.rest).size : Int) := by rw [hsz]; omega
    go_enter Tryd.func57, Tryd.ntmps57
    go_wp2_with fail
    refine (H82.out _).mono ?_
    rintro e w2 ⟨rv, rfl, hrec, hb2, hown⟩
    obtain ⟨ra, rc, hrv, _⟩ := hrec.shape
    subst hrv
    obtain ⟨f1, f2, f3, f4, f5, f6⟩ := HB.out w2 hb2 (.cells #[.int .i64 b.base, .int .i64 b.epoch, .int .i64 b.pid, .int .i64 b.pidEpoch, .int .i64 b.seq, .slice ra b.recs.length rc] 50)
    have d0 := f1.c0
    have df := f1.f 0
    have HD := hid (f1.set0 (s.rest.drop k) (by simp; unfold maxLen; omega))
    have G2 : Hid (((w2.alloc (.cells #[.int .i64 b.base, .int .i64 b.epoch, .int .i64 b.pid, .int .i64 b.pidEpoch, .int .i64 b.seq, .slice ra b.recs.length rc] 50)).setCell ⟨q, 0, none⟩ (.string (strOf (s.rest.drop k)))).heap[w2.heap.size]? = some (.cells #[.int .i64 b.base, .int .i64 b.epoch, .int .i64 b.pid, .int .i64 b.pidEpoch, .int .i64 b.seq, .slice ra b.recs.length rc] 50)) := (Below.heap_setCell _ ⟨q, 0, none⟩ _ _ (by show _ ≠ q; omega)).trans f5
    have G1 : Hid (((w2.alloc (.cells #[.int .i64 b.base, .int .i64 b.epoch, .int .i64 b.pid, .int .i64 b.pidEpoch, .int .i64 b.seq, .slice ra b.recs.length rc] 50)).setCell ⟨q, 0, none⟩ (.string (strOf (s.rest.drop k)))).heap[w.heap.size]? = some (.cells #[.int .i64 0, .int .i64 0, .int .i64 0, .int .i64 0, .int .i64 0, .slice none 0 0] 50)) := (Below.heap_setCell _ ⟨q, 0, none⟩ _ _ (by show _ ≠ q; omega)).trans f2
    have G3 : Hid (w.grownBy ((w2.alloc (.cells #[.int .i64 b.base, .int .i64 b.epoch, .int .i64 b.pid, .int .i64 b.pidEpoch, .int .i64 b.seq, .slice ra b.recs.length rc] 50)).setCell ⟨q, 0, none⟩ (.string (strOf (s.rest.drop k)))) (some q)) := f3.trans (Lib.grownBy_setCell _ q 0 _)
    have HREC := hid hrec
    have HOWN := hid hown
    have hs2 : w.heap.size < w2.heap.size := f4
    clear f1 f2 f3 f5 hrec hown hb2 H82 HB
    go_wp2_with (first | (refine wpList_load_row rfl 50 _ rfl w2.heap.size rfl 50 _ (0, 0) _ G2.out Tryd.underlying50 rfl size50 ?_) | (refine wpList_store_row rfl 50 _ _ rfl w.heap.size #[.int .i64 b.base, .int .i64 b.epoch, .int .i64 b.pid, .int .i64 b.pidEpoch, .int .i64 b.seq, .slice ra b.recs.length rc] rfl rfl 50 _ G1.out size50 rfl (by simp [Value.oneCell']) ?_))
    refine bodyPost_ret (v := .agg #[.int .i64 b.base, .int .i64 b.epoch, .int .i64 b.pid, .int .i64 b.pidEpoch, .int .i64 b.seq, .slice ra b.recs.length rc]) (by exact results_cell_row Tryd.results57 _ _ w.heap.size 50 _ (0, 0) _ rfl (setRow_heap _ _ _ _ 50 (0, 0) G1.out) Tryd.underlying50 rfl size50) rfl ⟨ra, rc, by rw [HF.out], ?_, ?_, ?_, ?_⟩
    · rw [HF.out]; exact HD.out.row _ _ (by omega)
    · exact grown_setRow G3.out _ _ (Nat.le_refl _)
    · rw [HF.out]
      have hoq : ∀ k, (Value.slice ra b.recs.length rc).ownBlock = some k → w.heap.size < k := fun k hk => by have := HOWN.out k hk; simp at this; omega
      refine (HREC.out.under ((Below.refl _ _).alloc (Nat.le_refl _) (.cells #[.int .i64 b.base, .int .i64 b.epoch, .int .i64 b.pid, .int .i64 b.pidEpoch, .int .i64 b.seq, .slice ra b.recs.length rc] 50))).off (fun k hk => ?_) (by rw [setRow_size]; simp [World.setCell])
      have := hoq k hk
      rw [setRow_other _ _ _ _ (by omega), Below.heap_setCell _ ⟨q, 0, none⟩ _ k (by show _ ≠ q; omega)]
    · rw [HF.out]
      intro k hk
      have := HOWN.out k hk
      simp at this
      omega
  · have hne : (e != 0) = true := by simp [he]
    have HF : Hid (batS s = (zeroBat, spoiled)) := by show _ = _; rw [HN.out, if_neg he]
    clear he
    go_enter Tryd.func57, Tryd.ntmps57
    go_wp2_with fail
    refine (H82.out _).mono ?_
    rintro e w2 ⟨rv, rfl, hrec, hb2, hown⟩
    obtain ⟨ra, rc, hrv, _⟩ := hrec.shape
    subst hrv
    obtain ⟨f1, f2, f3, f4, f5, f6⟩ := HB.out w2 hb2 (.cells #[.int .i64 b.base, .int .i64 b.epoch, .int .i64 b.pid, .int .i64 b.pidEpoch, .int .i64 b.seq, .slice ra b.recs.length rc] 50)
    have H79 := hid (pspoil_any f1)
    have F := hid (And.intro f2 f3)
    clear hrec hown hb2 H82 HB f1 f2 f3 f5
    go_wp2_with fail
    refine H79.out.mono ?_
    rintro e w3 ⟨rfl, hr3, hg3⟩
    have G1 : Hid (w3.heap[w.heap.size]? = some (.cells #[.int .i64 0, .int .i64 0, .int .i64 0, .int .i64 0, .int .i64 0, .slice none 0 0] 50)) := (hg3.block w.heap.size (by simp; omega) (fun e => by cases e; omega)).trans F.out.1
    have G3 := hid (F.out.2.trans hg3)
    have HP := hid hr3
    clear hr3 hg3
    go_wp2_with (refine wpList_store_row rfl 50 _ _ rfl w.heap.size #[.int .i64 0, .int .i64 0, .int .i64 0, .int .i64 0, .int .i64 0, .slice none 0 0] rfl rfl 50 _ G1.out size50 rfl (by simp [Value.oneCell']) ?_)
    refine bodyPost_ret (v := .agg #[.int .i64 0, .int .i64 0, .int .i64 0, .int .i64 0, .int .i64 0, .slice none 0 0]) (by exact results_cell_row Tryd.results57 _ _ w.heap.size 50 _ (0, 0) _ rfl (setRow_heap _ _ _ _ 50 (0, 0) G1.out) Tryd.underlying50 rfl size50) rfl ⟨none, 0, by rw [HF.out]; rfl, ?_, ?_, ?_, ?_⟩
    · rw [HF.out]; exact HP.out.row _ _ (by omega)
    · exact grown_setRow G3.out _ _ (Nat.le_refl _)
    · rw [HF.out]; exact recs_nil _
    · intro k hk; cases hk

set_option maxHeartbeats 800000 in
theorem entry_any {w : World} {q : Nat} {s : RS} (h : Pd w q s) : Calls Tryd.prog 59 #[.pointer (some ⟨q, 0, none⟩)] w fun e w' => e = .returned (.agg #[.int .i64 (entS s).1.term, .int .i64 (entS s).1.index, .string (strOf (entS s).1.data)]) ∧ Pd w' q (entS s).2 ∧ w.grownBy w' (some q) := by
  have hlt := h.lt
  have HR : Hid (∀ O, Pd (w.alloc O) q s) := fun O => h.kept (Below.heap_alloc w O q hlt)
  have HN : Hid (entS s = (⟨(numS s).1, (numS (numS s).2).1, (textS 2048 (numS (numS s).2).2).1⟩, (textS 2048 (numS (numS s).2).2).2)) := rfl
  clear h
  have G54 : Hid (∀ W, Pd W q s → Calls Tryd.prog 51 #[.pointer (some ⟨q, 0, none⟩)] W fun e w' => e = .returned (.int .i64 (numS s).1) ∧ Pd w' q (numS s).2 ∧ W.grownBy w' (some q)) := fun W h => pnum_any h
  generalize numS s = N at *
  obtain ⟨t, s1⟩ := N
  simp only at *
  have G53a : Hid (∀ W, Pd W q s1 → Calls Tryd.prog 51 #[.pointer (some ⟨q, 0, none⟩)] W fun e w' => e = .returned (.int .i64 (numS s1).1) ∧ Pd w' q (numS s1).2 ∧ W.grownBy w' (some q)) := fun W h => pnum_any h
  generalize numS s1 = N at *
  obtain ⟨ix, s2⟩ := N
  simp only at *
  have G53b : Hid (∀ W, Pd W q s2 → Calls Tryd.prog 55 #[.pointer (some ⟨q, 0, none⟩), .int .i64 2048] W fun e w' => e = .returned (.string (strOf (textS 2048 s2).1)) ∧ Pd w' q (textS 2048 s2).2 ∧ W.grownBy w' (some q)) := fun W h => ptext_any h 2048 (by omega) (by omega)
  generalize textS 2048 s2 = N at *
  obtain ⟨vl, s3⟩ := N
  simp only at *
  go_enter Tryd.func59, Tryd.ntmps59
  go_wp2_with fail
  refine (G54.out _ (HR.out _)).mono ?_
  rintro e w1 ⟨rfl, hr1, hg1⟩
  go_wp2_with fail
  refine (G53a.out _ hr1).mono ?_
  rintro e w2 ⟨rfl, hr2, hg2⟩
  go_wp2_with fail
  refine (G53b.out _ hr2).mono ?_
  rintro e w3 ⟨rfl, hr3, hg3⟩
  have hg := (hg1.trans hg2).trans hg3
  have hbx := grown_box hg hlt
  have d0 := cell_blk hbx 0 (.int .i64 0) rfl
  have d1 := cell_blk hbx 1 (.int .i64 0) rfl
  have d2 := cell_blk hbx 2 (.string ⟨#[]⟩) rfl
  have f0 := frozen_blk hbx 0
  have f1 := frozen_blk hbx 1
  have f2 := frozen_blk hbx 2
  have hsz : w.heap.size < w3.heap.size := by have := hg.size; simp at this; omega
  have HR3 := hid hr3
  have HG := hid ((World.grownBy_alloc w _ (some q)).trans hg)
  clear hbx hg hg1 hg2 hg3 hr1 hr2 hr3
  go_wp2
  refine bodyPost_ret (v := .agg #[.int .i64 t, .int .i64 ix, .string (strOf vl)]) (by simp [results, Tryd.results59, go_sem, d0, d1, d2]) rfl ⟨by rw [HN.out], ?_, ?_⟩
  · rw [HN.out]
    exact ((HR3.out.set _ _ _ (by omega)).set _ _ _ (by omega)).set _ _ _ (by omega)
  · exact grown_set (grown_set (grown_set HG.out _ _ _ (Nat.le_refl _)) _ _ _ (Nat.le_refl _)) _ _ _ (Nat.le_refl _)
end Go.Proofs.YtocdlaoklagdoaaDoor
