/- Batches in memory: their records, row by row; what looks at them: rightTimes, hasLongText. -/
import Derived.Test.YtlgaianlkbaedaaH1
namespace Go.Proofs.Ytlgaianlkbaedaa
open Go.RowKit Go.Maps
set_option linter.unusedSimpArgs false
set_option linter.unusedVariables false
set_option maxRecDepth 100000

def Rec.ok (r : Rec) : Prop := I64 r.time ∧ r.key.length ≤ maxLen ∧ r.val.length ≤ maxLen
def RecCells (w : World) (b o : Nat) (r : Rec) : Prop := w.cell? ⟨b, o, none⟩ = some (.string (strOf r.key)) ∧ w.cell? ⟨b, o + 1, none⟩ = some (.string (strOf r.val)) ∧ w.cell? ⟨b, o + 2, none⟩ = some (.int .i64 r.time)
def RecsAt (w : World) (a : Option Addr) (rs : List Rec) : Prop := rs = [] ∨ ∃ b off, a = some ⟨b, off, none⟩ ∧ b < w.heap.size ∧ ∀ i (h : i < rs.length), RecCells w b (off + i * 3) rs[i]
/-- A slice of records that is there. -/
structure Recs (w : World) (v : Value) (rs : List Rec) : Prop where
  shape : ∃ a cap, v = .slice a rs.length cap ∧ RecsAt w a rs
  ok : ∀ r ∈ rs, r.ok
  len : rs.length ≤ maxLen

theorem RecCells.under {w w' : World} {b o : Nat} {r : Rec} (h : RecCells w b o r) (e : w'.heap[b]? = w.heap[b]?) : RecCells w' b o r := by
  obtain ⟨h0, h1, h2⟩ := h
  exact ⟨(World.cell?_of_block (a := ⟨b, o, none⟩) e).trans h0, (World.cell?_of_block (a := ⟨b, o + 1, none⟩) e).trans h1, (World.cell?_of_block (a := ⟨b, o + 2, none⟩) e).trans h2⟩
theorem RecsAt.under {w w' : World} {a : Option Addr} {rs : List Rec} (h : RecsAt w a rs) (hb : Below w.heap.size w w') : RecsAt w' a rs := by
  rcases h with h | ⟨b, off, e, hl, hc⟩
  · exact .inl h
  · exact .inr ⟨b, off, e, Nat.lt_of_lt_of_le hl hb.size, fun i hi => (hc i hi).under (hb.block b hl)⟩
theorem Recs.under {w w' : World} {v : Value} {rs : List Rec} (h : Recs w v rs) (hb : Below w.heap.size w w') : Recs w' v rs := by
  obtain ⟨a, cap, e, ha⟩ := h.shape
  exact ⟨⟨a, cap, e, ha.under hb⟩, h.ok, h.len⟩
theorem Recs.at {w : World} {a : Option Addr} {cap : Nat} {rs : List Rec} (h : RecsAt w a rs) (k : Nat) (hk : k < rs.length) : ∃ b off, a = some ⟨b, off, none⟩ ∧ b < w.heap.size ∧ RecCells w b (off + k * 3) rs[k] := by
  rcases h with h | ⟨b, off, e, hl, hc⟩
  · subst h; simp at hk
  · exact ⟨b, off, e, hl, hc k hk⟩

theorem take_all (p : Rec → Bool) (l : List Rec) (k : Nat) (h : k < l.length) : (l.take (k + 1)).all p = ((l.take k).all p && p l[k]) := by
  rw [List.take_succ_eq_append_getElem h, List.all_append]; simp
theorem take_any (p : Rec → Bool) (l : List Rec) (k : Nat) (h : k < l.length) : (l.take (k + 1)).any p = ((l.take k).any p || p l[k]) := by
  rw [List.take_succ_eq_append_getElem h, List.any_append]; simp
theorem all_no (p : Rec → Bool) (l : List Rec) (k : Nat) (h : k < l.length) (hp : p l[k] = false) : l.all p = false := by
  rw [List.all_eq_false]; exact ⟨l[k], List.getElem_mem h, by simp [hp]⟩
theorem any_yes (p : Rec → Bool) (l : List Rec) (k : Nat) (h : k < l.length) (hp : p l[k] = true) : l.any p = true := by
  rw [List.any_eq_true]; exact ⟨l[k], List.getElem_mem h, hp⟩

set_option maxHeartbeats 800000 in
theorem rightTimes_any {w : World} {v : Value} {rs : List Rec} (h : Recs w v rs) :
    Calls Try.prog 61 #[v] w fun e w' => e = .returned (.bool (timesB rs)) ∧ Below w.heap.size w w' := by
  obtain ⟨a, cap, rfl, ha⟩ := h.shape
  have hok := hid h.ok
  have hlen := h.len
  unfold maxLen at hlen
  have HA := hid ha
  clear h ha
  go_enter Try.func61, Try.ntmps61
  go_wp2
  go_loopg [7] rs.length (fun kx s7 wr => ∃ k : Nat, k ≤ rs.length ∧ rs.length - k ≤ kx ∧ s7 = .int .i64 k ∧ Hid (Below w.heap.size w wr ∧ (rs.take k).all (fun r => inB r.time) = true))
  case atStart => exact ⟨0, by omega, by omega, rfl, Below.refl _ _, by simp⟩
  case round =>
    obtain ⟨k, hk, hkx, rfl, HD⟩ := hrel
    by_cases hlt : k < rs.length
    · have hlt' : (k : Int) < (rs.length : Int) := by omega
      obtain ⟨b, off, rfl, hbl, hc0, hc1, hc2⟩ := Recs.at (cap := cap) (HA.out.under HD.out.1) k hlt
      have hs := HD.out.1.size
      obtain ⟨⟨ht1, ht2⟩, ht3, ht4⟩ := hok.out rs[k] (List.getElem_mem hlt)
      unfold maxLen at ht3 ht4
      have hsn := hid (take_all (fun r => inB r.time) rs k hlt)
      have hno := hid (all_no (fun r => inB r.time) rs k hlt)
      generalize rs[k].time = T at *
      generalize strOf rs[k].key = K at *
      generalize strOf rs[k].val = V at *
      by_cases h1 : T < 0
      · have HF : Hid (timesB rs = false) := hno.out (by rw [Bool.eq_false_iff]; intro h; rw [inB_iff] at h; omega)
        go_wp2
        go_ret
        exact ⟨ret_bool HF.out.symm, HD.out.1.alloc hs _⟩
      · by_cases h2 : 1000000000 < T
        · have HF : Hid (timesB rs = false) := hno.out (by rw [Bool.eq_false_iff]; intro h; rw [inB_iff] at h; omega)
          go_wp2
          go_ret
          exact ⟨ret_bool HF.out.symm, HD.out.1.alloc hs _⟩
        · have HF : Hid ((rs.take (k + 1)).all (fun r => inB r.time) = true) := by
            show _ = _
            rw [hsn.out, HD.out.2, (inB_iff T).2 ⟨by omega, by omega⟩]
            rfl
          go_wp2
          go_roundg (rs.length - (k + 1))
          case measure => omega
          case rel => exact ⟨k + 1, by omega, Nat.le_refl _, by go_num, HD.out.1.alloc hs _, HF.out⟩
    · have hlt' : ¬ (k : Int) < (rs.length : Int) := by omega
      have he : rs.take k = rs := List.take_of_length_le (by omega)
      have HE := hid HD.out.2
      rw [he] at HE
      clear he
      go_wp2
      go_ret
      exact ⟨ret_bool (by exact HE.out.symm), HD.out.1⟩

set_option maxHeartbeats 800000 in
theorem hasLong_any {w : World} {v : Value} {rs : List Rec} (h : Recs w v rs) :
    Calls Try.prog 62 #[v] w fun e w' => e = .returned (.bool (longB rs)) ∧ Below w.heap.size w w' := by
  obtain ⟨a, cap, rfl, ha⟩ := h.shape
  have hok := hid h.ok
  have hlen := h.len
  unfold maxLen at hlen
  have HA := hid ha
  clear h ha
  go_enter Try.func62, Try.ntmps62
  go_wp2
  go_loopg [7] rs.length (fun kx s7 wr => ∃ k : Nat, k ≤ rs.length ∧ rs.length - k ≤ kx ∧ s7 = .int .i64 k ∧ Hid (Below w.heap.size w wr ∧ (rs.take k).any (fun r => decide (1000 < r.key.length) || decide (1000 < r.val.length)) = false))
  case atStart => exact ⟨0, by omega, by omega, rfl, Below.refl _ _, by simp⟩
  case round =>
    obtain ⟨k, hk, hkx, rfl, HD⟩ := hrel
    by_cases hlt : k < rs.length
    · have hlt' : (k : Int) < (rs.length : Int) := by omega
      obtain ⟨b, off, rfl, hbl, hc0, hc1, hc2⟩ := Recs.at (cap := cap) (HA.out.under HD.out.1) k hlt
      have hs := HD.out.1.size
      obtain ⟨⟨ht1, ht2⟩, ht3, ht4⟩ := hok.out rs[k] (List.getElem_mem hlt)
      unfold maxLen at ht3 ht4
      have hsn := hid (take_any (fun r => decide (1000 < r.key.length) || decide (1000 < r.val.length)) rs k hlt)
      have hno := hid (any_yes (fun r => decide (1000 < r.key.length) || decide (1000 < r.val.length)) rs k hlt)
      generalize rs[k].time = T at *
      generalize rs[k].key = K at *
      generalize rs[k].val = V at *
      by_cases h1 : 1000 < K.length
      · have h1' : 1000 < ((strOf K).size : Int) := by rw [strOf_size]; omega
        have HF : Hid (longB rs = true) := hno.out (by simp [h1])
        go_wp2
        go_ret
        exact ⟨ret_bool HF.out.symm, HD.out.1.alloc hs _⟩
      · have h1' : ¬ 1000 < ((strOf K).size : Int) := by rw [strOf_size]; omega
        by_cases h2 : 1000 < V.length
        · have h2' : 1000 < ((strOf V).size : Int) := by rw [strOf_size]; omega
          have HF : Hid (longB rs = true) := hno.out (by simp [h2])
          go_wp2
          go_ret
          exact ⟨ret_bool HF.out.symm, HD.out.1.alloc hs _⟩
        · have h2' : ¬ 1000 < ((strOf V).size : Int) := by rw [strOf_size]; omega
          have HF : Hid ((rs.take (k + 1)).any (fun r => decide (1000 < r.key.length) || decide (1000 < r.val.length)) = false) := by
            show _ = _
            rw [hsn.out, HD.out.2]
            simp [h1, h2]
          go_wp2
          go_roundg (rs.length - (k + 1))
          case measure => omega
          case rel => exact ⟨k + 1, by omega, Nat.le_refl _, by go_num, HD.out.1.alloc hs _, HF.out⟩
    · have hlt' : ¬ (k : Int) < (rs.length : Int) := by omega
      have he : rs.take k = rs := List.take_of_length_le (by omega)
      have HE := hid HD.out.2
      rw [he] at HE
      clear he
      go_wp2
      go_ret
      exact ⟨ret_bool (by exact HE.out.symm), HD.out.1⟩

end Go.Proofs.Ytlgaianlkbaedaa

