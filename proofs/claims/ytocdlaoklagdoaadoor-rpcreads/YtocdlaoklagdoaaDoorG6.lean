/- The document's Batch. -/
import Derived.Test.YtocdlaoklagdoaaDoorRefright
import Derived.Test.YtocdlaoklagdoaaDoorAn
import Derived.Test.YtocdlaoklagdoaaDoorPb
namespace Go.Proofs.YtocdlaoklagdoaaDoor
open Go.RowKit Go.Maps
set_option linter.unusedSimpArgs false
set_option linter.unusedVariables false
set_option maxRecDepth 100000

set_option maxHeartbeats 1600000 in
theorem refbatch_any {w : World} (b : Bat) (a : Option Addr) (cap : Nat) (hr : Recs w (.slice a b.recs.length cap) b.recs) (hi : b.ints) :
    Calls Tryd.prog 36 #[.agg #[.int .i64 b.base, .int .i64 b.epoch, .int .i64 b.pid, .int .i64 b.pidEpoch, .int .i64 b.seq, .slice a b.recs.length cap]] w fun e w' => e = .returned (.tuple #[.string (strOf (batchL b).1), .int .i64 (batchL b).2]) ∧ Below w.heap.size w w' := by
  have HX0 := hid (Boxed.laid w (.cells #[.int .i64 b.base, .int .i64 b.epoch, .int .i64 b.pid, .int .i64 b.pidEpoch, .int .i64 b.seq, .slice a b.recs.length cap] 50))
  have H18 : Hid (∀ W : World, Below w.heap.size w W → Calls Tryd.prog 26 #[.agg #[.int .i64 b.base, .int .i64 b.epoch, .int .i64 b.pid, .int .i64 b.pidEpoch, .int .i64 b.seq, .slice a b.recs.length cap]] W fun e w' => e = .returned (.int .i64 (rightL b)) ∧ Below W.heap.size W w') := fun W h => rright_any b a cap (hr.under h) hi
  by_cases hR : rightL b = 0
  · obtain ⟨h1, h2, h3⟩ := right_facts hR
    have HF : Hid (batchL b = (fourL (bodyL b).length ++ fourL (crcL (bodyL b)) ++ bodyL b, 0)) := by show _ = _; unfold batchL; rw [if_pos hR]
    have H31 : Hid (∀ W : World, Below w.heap.size w W → Calls Tryd.prog 37 #[.agg #[.int .i64 b.base, .int .i64 b.epoch, .int .i64 b.pid, .int .i64 b.pidEpoch, .int .i64 b.seq, .slice a b.recs.length cap]] W fun e w' => e = .returned (.string (strOf (bodyL b))) ∧ Below W.heap.size W w') := fun W h => by
      obtain ⟨a2, cap2, e, ha⟩ := (hr.under h).shape
      cases e
      exact rbody_any b a cap ha hi (fun r hx => (hr.ok r hx).1) h1 h2
    have HR := hid hR
    clear h1 h2 hR hr
    generalize bodyL b = L at *
    have hsz := strOf_size L
    have hcrc := crcL_lt L
    have H14 := hid (fun W => rcrc_any (strOf L) W (by rw [hsz]; unfold maxLen; omega))
    rw [strOf_data] at H14
    have H32a := hid (fun W => rfour_any L.length W (by omega))
    have H32b := hid (fun W => rfour_any (crcL L) W hcrc)
    have e1 := strOf_append (fourL L.length) (fourL (crcL L))
    have e2 := strOf_append (fourL L.length ++ fourL (crcL L)) L
    generalize crcL L = C at *
    have z1 : (strOf (fourL L.length)).size = 4 := strOf_size _
    have z2 : (strOf (fourL C)).size = 4 := strOf_size _
    have z3 : (strOf (fourL L.length ++ fourL C)).size = 8 := strOf_size _
    go_enter Tryd.func36, Tryd.ntmps36
    go_wp2_with (go_at_call 26; refine (H18.out _ HX0.out.below).mono ?_; rintro e w1 ⟨rfl, hb1⟩; rw [HR.out]; have HX1 := hid (HX0.out.next hb1); obtain ⟨c10, c11, c12, c13, c14, c15⟩ := six HX1.out; clear hb1)
    go_wp2_with (go_at_call 37; refine (H31.out _ HX1.out.below).mono ?_; rintro e w2 ⟨rfl, hb2⟩; have HX2 := hid (HX1.out.next hb2); clear hb2)
    refine (H32a.out _).mono ?_
    rintro e w3 ⟨rfl, hb3⟩
    have HX3 := hid (HX2.out.next hb3)
    clear hb3
    go_wp2_with (go_at_call 14; refine (H14.out _).mono ?_; rintro e w4 ⟨rfl, rfl⟩)
    refine (H32b.out _).mono ?_
    rintro e w5 ⟨rfl, hb5⟩
    have HX5 := hid (HX3.out.next hb5)
    clear hb5
    go_wp2
    go_ret2
    exact ⟨by rw [HF.out, List.append_assoc]; rfl, HX5.out.below⟩
  · have HF : Hid (batchL b = ([], rightL b)) := by show _ = _; unfold batchL; rw [if_neg hR]
    have hne : (rightL b != 0) = true := by simp [hR]
    have hne2 : (rightL b == 0) = false := by simp [hR]
    clear hR hr
    go_enter Tryd.func36, Tryd.ntmps36
    go_wp2_with (go_at_call 26; refine (H18.out _ HX0.out.below).mono ?_; rintro e w1 ⟨rfl, hb1⟩)
    go_ret2
    exact ⟨by rw [HF.out]; rfl, (HX0.out.next hb1).below⟩

end Go.Proofs.YtocdlaoklagdoaaDoor

/- The document's text and body of a message. -/
namespace Go.Proofs.YtocdlaoklagdoaaDoor
open Go.RowKit Go.Maps
set_option linter.unusedSimpArgs false
set_option linter.unusedVariables false
set_option maxRecDepth 100000

theorem load27_want {ops : Array Oper} {rest : List Oper} {o : Oper} {a : Act} {w : World} {Q : Exit → Act → World → Prop} (hw : Region.wanted o (yielded ops a.tmps) = true) (x : Operand) (ho : o.op = .load 27 x)
    (g : Nat) (hx : a.eval x = .pointer (some ⟨g, 0, none⟩)) (cs : Array Value) (hg : w.heap[g]? = some (.cells cs 27)) (hz : cs.size = 21)
    (h : wpList Tryd.prog ops Q rest (a.put o.dst (.agg cs)) w) : wpList Tryd.prog ops Q (o :: rest) a w :=
  wpList_step fun K hK => by rw [if_pos hw]; exact wp_load_row 27 x ho g hx 27 cs (0, 0) _ hg Tryd.underlying27 rfl (by rw [hz]; exact size27) (hK _ _ h)
/- The parts, one behind another. -/
def L15 (m : Msg) : List Int := nums m ++ [m.err]
def sumT (m : Msg) (k : Nat) : Nat := bitsOf ((there m).take k)
def putTs : List (List UInt8) → List UInt8
  | [] => []
  | t :: r => putT t ++ putTs r
theorem putTs_append : ∀ l m : List (List UInt8), putTs (l ++ m) = putTs l ++ putTs m
  | [], m => rfl
  | n :: r, m => by simp [putTs, putTs_append r m]
def txts (m : Msg) : List (List UInt8) := [m.name, m.text]
def p15 (m : Msg) : List UInt8 := putNs (L15 m)
def p17 (m : Msg) : List UInt8 := p15 m ++ putTs (txts m)
def p18 (m : Msg) : List UInt8 := p17 m ++ putB m.bats
def p19 (m : Msg) : List UInt8 := p18 m ++ putE m.ents
def p20 (m : Msg) : List UInt8 := p19 m ++ putI m.ints
theorem p20_eq (m : Msg) : p20 m = partsL m := by
  simp [p20, p19, p18, p17, p15, L15, txts, putTs, putNs_append, putNs, partsL, tail14, tail15, tail16, tail17, tail18, tail19]
theorem sumT_step (m : Msg) (k : Nat) (hk : k < 20) : sumT m (k + 1) = sumT m k + bitV k ((there m).getD k false) := by
  have hl := there_length m
  unfold sumT
  rw [List.take_succ_eq_append_getElem (show k < (there m).length by omega), bitsOf_snoc, List.length_take, Nat.min_eq_left (by omega)]
  simp [List.getD, hl, hk]
theorem sumT_lt (m : Msg) (k : Nat) (hk : k ≤ 20) : sumT m k < 1048576 := by
  have := bitsOf_lt ((there m).take k)
  have hl := there_length m
  have h2 : (2 : Nat) ^ ((there m).take k).length ≤ 2 ^ 20 := Nat.pow_le_pow_right (by omega) (by rw [List.length_take]; omega)
  unfold sumT
  have e : (2 : Nat) ^ 20 = 1048576 := by decide
  omega
theorem sumT_all (m : Msg) : sumT m 20 = sumL m := rfl
theorem there_num (m : Msg) (k : Nat) (hk : k < 15) : (there m).getD k false = decide ((L15 m).getD k 0 ≠ 0) := by
  have h : k = 0 ∨ k = 1 ∨ k = 2 ∨ k = 3 ∨ k = 4 ∨ k = 5 ∨ k = 6 ∨ k = 7 ∨ k = 8 ∨ k = 9 ∨ k = 10 ∨ k = 11 ∨ k = 12 ∨ k = 13 ∨ k = 14 := by omega
  rcases h with rfl | rfl | rfl | rfl | rfl | rfl | rfl | rfl | rfl | rfl | rfl | rfl | rfl | rfl | rfl <;> rfl
theorem putNs_take (l : List Int) (k : Nat) (hk : k < l.length) : putNs (l.take (k + 1)) = putNs (l.take k) ++ putN l[k] := by
  rw [List.take_succ_eq_append_getElem hk, putNs_snoc]
theorem putTs_take (l : List (List UInt8)) (k : Nat) (hk : k < l.length) : putTs (l.take (k + 1)) = putTs (l.take k) ++ putT l[k] := by
  rw [List.take_succ_eq_append_getElem hk, putTs_append]; simp [putTs]
theorem batsL_take (l : List Bat) (k : Nat) (hk : k < l.length) : batsL (l.take (k + 1)) = batsL (l.take k) ++ (batchL l[k]).1 := by
  rw [List.take_succ_eq_append_getElem hk, batsL_snoc]
theorem entsL_take (l : List Ent) (k : Nat) (hk : k < l.length) : entsL (l.take (k + 1)) = entsL (l.take k) ++ entL l[k] := by
  rw [List.take_succ_eq_append_getElem hk, entsL_snoc]
theorem intsL_take (l : List Int) (k : Nat) (hk : k < l.length) : intsL (l.take (k + 1)) = intsL (l.take k) ++ intL l[k] := by
  rw [List.take_succ_eq_append_getElem hk, intsL_snoc]
theorem putT_len2 (t : List UInt8) : (putT t).length ≤ 10 + t.length := by
  unfold putT
  split
  · simp
  · exact textL_length t
theorem p15_len (m : Msg) (k : Nat) : (putNs ((L15 m).take k)).length ≤ 150 := by
  have := putNs_length ((L15 m).take k)
  have h : ((L15 m).take k).length ≤ 15 := by rw [List.length_take]; have : (L15 m).length = 15 := rfl; omega
  omega
theorem p15_le (m : Msg) : (p15 m).length ≤ 150 := by have := p15_len m 15; rw [List.take_of_length_le (by exact Nat.le_refl _)] at this; exact this
theorem putTs_len (m : Msg) (k : Nat) (h1 : m.name.length ≤ 32) (h2 : m.text.length ≤ 65536) : (putTs ((txts m).take k)).length ≤ 65600 := by
  have a := putT_len2 m.name
  have b := putT_len2 m.text
  match k with
  | 0 => simp [putTs]
  | 1 => simp [putTs, txts]; omega
  | k + 2 => simp [putTs, txts]; omega
theorem p17_le (m : Msg) (h1 : m.name.length ≤ 32) (h2 : m.text.length ≤ 65536) : (p17 m).length ≤ 70000 := by
  have := putTs_len m 2 h1 h2
  have e : (txts m).take 2 = txts m := rfl
  rw [e] at this
  have := p15_le m
  unfold p17
  rw [List.length_append]
  omega
theorem p18_le (m : Msg) (h1 : m.name.length ≤ 32) (h2 : m.text.length ≤ 65536) (h3 : m.bats.length ≤ 64) : (p18 m).length ≤ 400000 := by
  have := p17_le m h1 h2
  have := putN_length (m.bats.length : Int)
  have := batsL_length m.bats
  unfold p18 putB
  simp only [List.length_append]
  omega
theorem p19_le (m : Msg) (h1 : m.name.length ≤ 32) (h2 : m.text.length ≤ 65536) (h3 : m.bats.length ≤ 64) (h4 : m.ents.length ≤ 64) (h5 : ∀ e ∈ m.ents, e.data.length ≤ 2048) : (p19 m).length ≤ 600000 := by
  have := p18_le m h1 h2 h3
  have := putN_length (m.ents.length : Int)
  have := entsL_length m.ents h5
  unfold p19 putE
  simp only [List.length_append]
  omega
theorem p20_le (m : Msg) (h1 : m.name.length ≤ 32) (h2 : m.text.length ≤ 65536) (h3 : m.bats.length ≤ 64) (h4 : m.ents.length ≤ 64) (h5 : ∀ e ∈ m.ents, e.data.length ≤ 2048) (h6 : m.ints.length ≤ 256) : (p20 m).length ≤ 700000 := by
  have := p19_le m h1 h2 h3 h4 h5
  have := putN_length (m.ints.length : Int)
  have := intsL_length m.ints
  unfold p20 putI
  simp only [List.length_append]
  omega
theorem putN_pos {n : Int} (h : n ≠ 0) : putN n = intL n := by unfold putN; rw [if_neg h]
theorem putT_pos {t : List UInt8} (h : t ≠ []) : putT t = textL t := by unfold putT; rw [if_neg h]

set_option maxHeartbeats 400000 in
theorem reftext_any (t : List UInt8) (w : World) (ht : t.length ≤ 1000000) : Calls Tryd.prog 35 #[.string (strOf t)] w fun e w' => e = .returned (.string (strOf (textL t))) ∧ Below w.heap.size w w' := by
  have H := hid (fun W => rint_any (t.length : Int) W ⟨by omega, by omega⟩)
  have z := (intL_length (t.length : Int)).2
  have hs := strOf_size t
  obtain ⟨S, h1, h2, h3⟩ := sfit (intL t.length) t _ rfl (by omega)
  rw [hs] at h2
  have HS : Hid (S = strOf (textL t)) := h1
  clear h1
  go_enter Tryd.func35, Tryd.ntmps35
  go_wp2_with (go_at_call 34; refine (H.out _).mono ?_; rintro e w1 ⟨rfl, hb1⟩)
  go_ret
  exact ⟨by rw [HS.out]; rfl, hb1⟩
end Go.Proofs.YtocdlaoklagdoaaDoor
