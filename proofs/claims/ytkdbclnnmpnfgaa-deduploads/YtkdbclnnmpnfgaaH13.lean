/- pick, batch. -/
import Derived.Test.YtkdbclnnmpnfgaaH12
import Derived.Laws.MakeOwn
namespace Go.Proofs.Ytkdbclnnmpnfgaa
open Go.RowKit Go.Maps
set_option maxRecDepth 100000
set_option linter.unusedSimpArgs false
set_option linter.unusedVariables false

def pickI (c n : Int) : Int := if c < 0 then (-(c + 1)) % n else c % n
theorem pickI_range (c n : Int) (hn : 1 ≤ n) : 0 ≤ pickI c n ∧ pickI c n < n := by
  unfold pickI
  split
  · exact ⟨Int.emod_nonneg _ (by omega), Int.emod_lt_of_pos _ (by omega)⟩
  · exact ⟨Int.emod_nonneg _ (by omega), Int.emod_lt_of_pos _ (by omega)⟩
theorem neg_tmod (c n : Int) : (-(c + 1)).tmod n = -((c + 1).tmod n) := by rw [Int.neg_tmod]
set_option maxHeartbeats 400000 in
theorem pick_any (c n : Int) (w : World) (hc : I64 c) (hn : 1 ≤ n) (hn2 : n ≤ 1000000) : Calls Try.prog 10 #[.int .i64 c, .int .i64 n] w fun e w' => e = .returned (.int .i64 (pickI c n)) ∧ w = w' := by
  unfold I64 at hc
  obtain ⟨hc1, hc2⟩ := hc
  by_cases h0 : c < 0
  · obtain ⟨d, hd⟩ : ∃ d, -(c + 1) = d := ⟨_, rfl⟩
    have HF : Hid (pickI c n = d % n) := by show _ = _; unfold pickI; rw [if_pos h0, hd]
    have hd0 : 0 ≤ d := by omega
    have hd1 : d ≤ 9223372036854775807 := by omega
    have hnz : n ≠ 0 := by omega
    go_enter Try.func10, Try.ntmps10
    go_wp2
    go_ret
    refine ⟨?_, rfl⟩
    rw [HF.out]
    refine ret_int ?_
    first | rfl | (rw [← neg_tmod, Int.tmod_eq_emod_of_nonneg (by omega)]) | (rw [Int.tmod_eq_emod_of_nonneg (by omega)])
  · have HF : Hid (pickI c n = c % n) := by show _ = _; unfold pickI; rw [if_neg h0]
    have hnz : n ≠ 0 := by omega
    have h0' : 0 ≤ c := by omega
    go_enter Try.func10, Try.ntmps10
    go_wp2
    go_ret
    refine ⟨?_, rfl⟩
    rw [HF.out]
    refine ret_int ?_
    first | rfl | (rw [Int.tmod_eq_emod_of_nonneg (by omega)])

def zrec : Rec := ⟨[], [], 0⟩
def zrecs (n : Nat) : List Rec := List.replicate n zrec
theorem zrecs_length (n : Nat) : (zrecs n).length = n := by simp [zrecs]
theorem info102 : ∃ i, Try.prog.info? 102 = some i ∧ i.zero = some (.agg #[.string ByteArray.empty, .string ByteArray.empty, .int .i64 0]) ∧ i.size = 3 ∧ i.bytes = 40 := ⟨_, rfl, rfl, rfl, rfl⟩
def zcells (n : Nat) : Array Value := madeCells #[.string ByteArray.empty, .string ByteArray.empty, .int .i64 0] (n * 3)
theorem make31 (w : World) (n : Nat) (hn : n ≤ 1000) : (Instr.makeSlice 31 (.int .i64 (n : Int)) (.int .i64 (n : Int))).run Try.prog w = .ok (.slice (some ⟨w.heap.size, 0, none⟩) n n) (w.alloc (.cells (zcells n) 102)) := by
  obtain ⟨i, h1, h2, h3, h4⟩ := info102
  have := run_makeSlice (P := Try.prog) w 31 102 i _ Try.underlying31 h1 h2 .i64 .i64 (n : Int) (n : Int) (by omega) (Int.le_refl _) (by rw [h3]; simp; omega) (by rw [h4]; omega) (by omega)
  rw [this, h3]
  simp [zcells, Value.cells]
theorem recs_made {w : World} {g n : Nat} (hn : n ≤ 1000) (h : w.heap[g]? = some (.cells (zcells n) 102 (0, 0))) : Recs w (.slice (some ⟨g, 0, none⟩) n n) (zrecs n) := by
  refine ⟨⟨some ⟨g, 0, none⟩, n, by rw [zrecs_length], ?_⟩, ?_, ?_⟩
  · refine .inr ⟨g, 0, rfl, ?_, fun i hi => ?_⟩
    · rcases Nat.lt_or_ge g w.heap.size with h1 | h1
      · exact h1
      · rw [Array.getElem?_eq_none h1] at h; cases h
    · rw [zrecs_length] at hi
      have hc : ∀ j, j < 3 → (zcells n)[0 + i * 3 + j]? = some (#[Value.string ByteArray.empty, Value.string ByteArray.empty, Value.int .i64 0][j]!) := fun j hj => by
        unfold zcells madeCells
        rw [Array.getElem?_map, Array.getElem?_range, if_pos (by omega)]
        simp only [Option.map_some, List.size_toArray, List.length_cons, List.length_nil, Nat.zero_add]
        have e : (i * 3 + j) % 3 = j := by omega
        rw [show (0 + 1 + 1 + 1) = 3 from rfl] at *
        rw [e]
      have e : (zrecs n)[i] = zrec := by simp [zrecs]
      rw [e]
      refine ⟨?_, ?_, ?_⟩
      · exact cell_blk h _ _ (hc 0 (by omega))
      · exact cell_blk h _ _ (hc 1 (by omega))
      · exact cell_blk h _ _ (hc 2 (by omega))
  · intro r hr
    have := (List.mem_replicate.1 hr).2
    subst this
    exact ⟨by unfold I64 zrec; simp, by simp [zrec], by simp [zrec]⟩
  · rw [zrecs_length]; unfold maxLen; omega

set_option maxHeartbeats 800000 in
theorem batch_any (pid ep seq base : Int) (n : Nat) (w : World) (hn : n ≤ 1000) :
    Calls Try.prog 11 #[.int .i64 pid, .int .i64 ep, .int .i64 seq, .int .i64 (n : Int), .int .i64 base] w fun e w' =>
      e = .returned (.agg #[.int .i64 base, .int .i64 0, .int .i64 pid, .int .i64 ep, .int .i64 seq, .slice (some ⟨w.heap.size + 1, 0, none⟩) n n]) ∧ Recs w' (.slice (some ⟨w.heap.size + 1, 0, none⟩) n n) (zrecs n) ∧ w.heap.size + 1 < w'.heap.size ∧ Below w.heap.size w w' := by
  have hmk := fun W => make31 W n hn
  have HR : Hid (∀ W : World, W.heap[w.heap.size + 1]? = some (.cells (zcells n) 102 (0, 0)) → Recs W (.slice (some ⟨w.heap.size + 1, 0, none⟩) n n) (zrecs n)) := fun W h => recs_made hn h
  generalize zcells n = Z at *
  go_enter Try.func11, Try.ntmps11
  go_wp2_with fail
  obtain ⟨q0, q1, q2, q3⟩ := world2 w (.cells #[.int .i64 base, .int .i64 0, .int .i64 pid, .int .i64 ep, .int .i64 seq, .slice (some ⟨w.heap.size + 1, 0, none⟩) n n] 33) (.cells Z 102)
  exact bodyPost_ret (v := .agg #[.int .i64 base, .int .i64 0, .int .i64 pid, .int .i64 ep, .int .i64 seq, .slice (some ⟨w.heap.size + 1, 0, none⟩) n n]) (by simp [results, Try.results11, go_sem]) rfl ⟨rfl, HR.out _ q1, by rw [q3]; omega, q2⟩

/-- A table of a call's own, behind a world's end. -/
def TS (w0 w : World) (q : Nat) (T : Tb) : Prop := ∃ S : Nat → Prop, Tab w S q T ∧ (∀ k, S k → w0.heap.size ≤ k) ∧ Below w0.heap.size w0 w
theorem TS.below {w0 w : World} {q : Nat} {T : Tb} (h : TS w0 w q T) : Below w0.heap.size w0 w := by obtain ⟨S, _, _, h⟩ := h; exact h
theorem TS.ok {w0 w : World} {q : Nat} {T : Tb} (h : TS w0 w q T) : TOk T := by obtain ⟨S, h, _⟩ := h; exact h.ok
theorem TS.under {w0 w w1 : World} {q : Nat} {T : Tb} (h : TS w0 w q T) (hb : Below w.heap.size w w1) : TS w0 w1 q T := by
  obtain ⟨S, h1, h2, h3⟩ := h
  exact ⟨S, h1.under hb, h2, h3.trans (hb.mono h3.size)⟩
theorem TS.after {w0 w w1 : World} {q : Nat} {T T' : Tb} {S : Nat → Prop} (h2 : ∀ k, S k → w0.heap.size ≤ k) (h3 : Below w0.heap.size w0 w) (ha : TAfter S w w1 q T') : TS w0 w1 q T' := by
  obtain ⟨S', a1, a2, a3, a4⟩ := ha
  refine ⟨S', a1, fun k hk => ?_, h3.trans (a4.below h3.size h2)⟩
  rcases a2 k hk with h | h
  · exact h2 k h
  · have := h3.size; omega
theorem TS.ask {w0 w : World} {q : Nat} {T : Tb} (h : TS w0 w q T) (pid ep seq n : Int) (hp : I64 pid) (he : I64 ep) (hs : I64 seq) (hn : I64 n) :
    Calls Try.prog 14 #[.pointer (some ⟨q, 0, none⟩), .int .i64 pid, .int .i64 ep, .int .i64 seq, .int .i64 n] w fun e w' =>
      e = .returned (.tuple #[.int .i64 (askL (tget T pid) pid ep seq n).1, .int .i64 (askL (tget T pid) pid ep seq n).2]) ∧ TS w0 w' q T ∧ Below w.heap.size w w' := by
  obtain ⟨S, h1, h2, h3⟩ := id h
  exact (ask_any h1 pid ep seq n hp he hs hn).mono fun e w' ⟨a, b⟩ => ⟨a, h.under b, b⟩
def batOf (pid ep seq base : Int) (n : Nat) : Bat := ⟨base, 0, pid, ep, seq, zrecs n⟩
theorem TS.note {w0 w : World} {q : Nat} {T : Tb} (h : TS w0 w q T) (pid ep seq base : Int) (n g : Nat) (hp : I64 pid) (he : I64 ep) (hs : I64 seq) (hb : I64 base) (hr : Recs w (.slice (some ⟨g, 0, none⟩) n n) (zrecs n)) (hc : cntT T < 100000) :
    Calls Try.prog 12 #[.pointer (some ⟨q, 0, none⟩), .agg #[.int .i64 base, .int .i64 0, .int .i64 pid, .int .i64 ep, .int .i64 seq, .slice (some ⟨g, 0, none⟩) n n]] w fun e w' => e = .returned (.tuple #[]) ∧ TS w0 w' q (noteT T (batOf pid ep seq base n)) := by
  obtain ⟨S, h1, h2, h3⟩ := h
  have := note_any h1 (batOf pid ep seq base n) (some ⟨g, 0, none⟩) n (by show Recs w (.slice (some ⟨g, 0, none⟩) (zrecs n).length n) (zrecs n); rw [zrecs_length]; exact hr) ⟨hb, by unfold I64 batOf; simp, hp, he, hs⟩ hc
  have e : (batOf pid ep seq base n).recs.length = n := zrecs_length n
  rw [e] at this
  exact this.mono fun e w' ⟨a, b⟩ => ⟨a, TS.after (T := T) h2 h3 b⟩
theorem TS.cut {w0 w : World} {q : Nat} {T : Tb} (h : TS w0 w q T) (N : Int) : Calls Try.prog 16 #[.pointer (some ⟨q, 0, none⟩), .int .i64 N] w fun e w' => e = .returned (.tuple #[]) ∧ TS w0 w' q (turnT (cutN N) T) := by
  obtain ⟨S, h1, h2, h3⟩ := h
  exact (cut_any h1 N).mono fun e w' ⟨a, b⟩ => ⟨a, TS.after (T := T) h2 h3 b⟩
theorem TS.del {w0 w : World} {q : Nat} {T : Tb} (h : TS w0 w q T) (N : Int) : Calls Try.prog 18 #[.pointer (some ⟨q, 0, none⟩), .int .i64 N] w fun e w' => e = .returned (.tuple #[]) ∧ TS w0 w' q (turnT (shortL N) T) := by
  obtain ⟨S, h1, h2, h3⟩ := h
  exact (delete_any h1 N).mono fun e w' ⟨a, b⟩ => ⟨a, TS.after (T := T) h2 h3 b⟩
theorem ts_new (w0 w : World) (hb : Below w0.heap.size w0 w) : Calls Try.prog 8 #[] w fun e w' => ∃ q : Nat, e = .returned (.pointer (some ⟨q, 0, none⟩)) ∧ TS w0 w' q [] := by
  refine (new_any w).mono fun e w' ⟨q, S, a, b, c, d⟩ => ⟨q, a, S, b, fun k hk => ?_, hb.trans (d.mono hb.size)⟩
  have := c k hk
  have := hb.size
  omega

theorem i64s (n : Int) (h : 0 ≤ n ∧ n ≤ 1000000000000) : I64 n := by unfold I64; omega
theorem sh1 : noteT [] (batOf 7 0 0 10 2) = [(7, [⟨0, 0, 2, 10⟩])] := by kernel_rfl
theorem sh2 : noteT [(7, [⟨0, 0, 2, 10⟩])] (batOf 7 1 0 12 1) = [(7, [⟨0, 0, 2, 10⟩, ⟨1, 0, 1, 12⟩])] := by kernel_rfl
theorem sh3 : turnT (cutN 12) [(7, [⟨0, 0, 2, 10⟩, ⟨1, 0, 1, 12⟩])] = [(7, [⟨0, 0, 2, 10⟩])] := by kernel_rfl
theorem a1 : askL (tget [] 7) 7 0 0 2 = (-1, 0) := by kernel_rfl
theorem a2 : askL (tget [(7, [⟨0, 0, 2, 10⟩])] 7) 7 0 0 2 = (10, 0) := by kernel_rfl
theorem a3 : askL (tget [(7, [⟨0, 0, 2, 10⟩])] 7) 7 0 2 1 = (-1, 0) := by kernel_rfl
theorem a4 : askL (tget [(7, [⟨0, 0, 2, 10⟩])] 7) 7 0 3 1 = (-1, 11) := by kernel_rfl
theorem a5 : askL (tget [(7, [⟨0, 0, 2, 10⟩])] 7) 7 0 1 1 = (-1, 12) := by kernel_rfl
theorem a6 : askL (tget [(7, [⟨0, 0, 2, 10⟩, ⟨1, 0, 1, 12⟩])] 7) 7 0 2 1 = (-1, 13) := by kernel_rfl

set_option maxHeartbeats 3200000 in
theorem shown_any (w : World) : Calls Try.prog 7 #[] w fun e w' => e = .returned (.bool true) ∧ Below w.heap.size w w' := by
  go_enter Try.func7, Try.ntmps7
  go_wp2_with fail
  refine (ts_new w w (Below.refl _ _)).mono ?_
  rintro e w1 ⟨q, rfl, h⟩
  have H1 := hid h
  clear h
  go_wp2_with fail
  refine (H1.out.ask 7 0 0 2 (i64s _ (by omega)) (i64s _ (by omega)) (i64s _ (by omega)) (i64s _ (by omega))).mono ?_
  rw [a1]
  rintro e w2 ⟨rfl, h, _⟩
  have H2 := hid h
  clear h
  go_wp2_with fail
  refine (batch_any 7 0 0 10 2 _ (by omega)).mono ?_
  rintro e w3 ⟨rfl, hr, hlt, hb⟩
  have HR := hid hr
  have H3 := hid (H2.out.under hb)
  clear hr hb
  go_wp2_with fail
  refine (H3.out.note 7 0 0 10 2 _ (i64s _ (by omega)) (i64s _ (by omega)) (i64s _ (by omega)) (i64s _ (by omega)) HR.out (by decide)).mono ?_
  rw [sh1]
  rintro e w4 ⟨rfl, h⟩
  have H4 := hid h
  clear h
  go_wp2_with fail
  refine (H4.out.ask 7 0 0 2 (i64s _ (by omega)) (i64s _ (by omega)) (i64s _ (by omega)) (i64s _ (by omega))).mono ?_
  rw [a2]
  rintro e w5 ⟨rfl, h, _⟩
  have H5 := hid h
  clear h
  go_wp2_with fail
  refine (H5.out.ask 7 0 2 1 (i64s _ (by omega)) (i64s _ (by omega)) (i64s _ (by omega)) (i64s _ (by omega))).mono ?_
  rw [a3]
  rintro e w6 ⟨rfl, h, _⟩
  have H6 := hid h
  clear h
  go_wp2_with fail
  refine (H6.out.ask 7 0 3 1 (i64s _ (by omega)) (i64s _ (by omega)) (i64s _ (by omega)) (i64s _ (by omega))).mono ?_
  rw [a4]
  rintro e w7 ⟨rfl, h, _⟩
  have H7 := hid h
  clear h
  go_wp2_with fail
  refine (H7.out.ask 7 0 1 1 (i64s _ (by omega)) (i64s _ (by omega)) (i64s _ (by omega)) (i64s _ (by omega))).mono ?_
  rw [a5]
  rintro e w8 ⟨rfl, h, _⟩
  have H8 := hid h
  clear h
  go_wp2_with fail
  refine (batch_any 7 1 0 12 1 _ (by omega)).mono ?_
  rintro e w9 ⟨rfl, hr, hlt2, hb⟩
  have HR2 := hid hr
  have H9 := hid (H8.out.under hb)
  clear hr hb
  go_wp2_with fail
  refine (H9.out.note 7 1 0 12 1 _ (i64s _ (by omega)) (i64s _ (by omega)) (i64s _ (by omega)) (i64s _ (by omega)) HR2.out (by decide)).mono ?_
  rw [sh2]
  rintro e w10 ⟨rfl, h⟩
  have H10 := hid h
  clear h
  go_wp2_with fail
  refine (H10.out.ask 7 0 2 1 (i64s _ (by omega)) (i64s _ (by omega)) (i64s _ (by omega)) (i64s _ (by omega))).mono ?_
  rw [a6]
  rintro e w11 ⟨rfl, h, _⟩
  have H11 := hid h
  clear h
  go_wp2_with fail
  refine (H11.out.cut 12).mono ?_
  rw [sh3]
  rintro e w12 ⟨rfl, h⟩
  have H12 := hid h
  clear h
  go_wp2_with fail
  refine (H12.out.ask 7 0 2 1 (i64s _ (by omega)) (i64s _ (by omega)) (i64s _ (by omega)) (i64s _ (by omega))).mono ?_
  rw [a3]
  rintro e w13 ⟨rfl, h, _⟩
  have H13 := hid h
  clear h
  go_wp2_with fail
  go_ret
  exact ⟨rfl, H13.out.below⟩
end Go.Proofs.Ytkdbclnnmpnfgaa

