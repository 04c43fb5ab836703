/- The reader of pieces: what is left of some bytes, in memory. -/
import Derived.Test.YtclldpecbocclaaGreatK6
import Derived.Test.YtclldpecbocclaaGreatK0
import Derived.Test.YtclldpecbocclaaGreatK3
import Derived.ArgAppend
import Derived.Deep.RegionHeld
import Derived.Deep.RegionHeld3
import Derived.Test.YtclldpecbocclaaGreatK5
namespace Go.Proofs.YtclldpecbocclaaGreat
open Go.RowKit Go.Maps
set_option linter.unusedSimpArgs false
set_option linter.unusedVariables false
set_option maxRecDepth 100000

/-- A reader in block q. -/
structure Pd (w : World) (q : Nat) (s : RS) : Prop where
  box : w.heap[q]? = some (.cells #[.string (strOf s.rest), .bool s.wrong] 132)
  len : s.rest.length ≤ maxLen
theorem Pd.c0 {w : World} {q : Nat} {s : RS} (h : Pd w q s) : w.cell? ⟨q, 0, none⟩ = some (.string (strOf s.rest)) := cell_blk h.box 0 _ rfl
theorem Pd.c1 {w : World} {q : Nat} {s : RS} (h : Pd w q s) : w.cell? ⟨q, 1, none⟩ = some (.bool s.wrong) := cell_blk h.box 1 _ rfl
theorem Pd.f {w : World} {q : Nat} {s : RS} (h : Pd w q s) (j : Nat) : w.frozen? ⟨q, j, none⟩ = false := frozen_blk h.box j
theorem Pd.lt {w : World} {q : Nat} {s : RS} (h : Pd w q s) : q < w.heap.size := by
  rcases Nat.lt_or_ge q w.heap.size with h1 | h1
  · exact h1
  · have := h.box; rw [Array.getElem?_eq_none h1] at this; cases this
theorem Pd.set0 {w : World} {q : Nat} {s : RS} (h : Pd w q s) (l : List UInt8) (hl : l.length ≤ maxLen) : Pd (w.setCell ⟨q, 0, none⟩ (.string (strOf l))) q ⟨l, s.wrong⟩ := by
  refine ⟨?_, hl⟩
  rw [setCell_eq_setRow w q 0 _ 132 (0, 0) _ h.box, setRow_heap w q _ _ 132 (0, 0) h.box]
  rfl
theorem Pd.spoil {w : World} {q : Nat} {s : RS} (h : Pd w q s) : Pd ((w.setCell ⟨q, 0, none⟩ (.string ⟨#[]⟩)).setCell ⟨q, 1, none⟩ (.bool true)) q spoiled := by
  have h1 := h.set0 [] (by simp)
  refine ⟨?_, by simp [spoiled]⟩
  have h1b := h1.box
  have e : (Value.string (strOf [])) = .string ⟨#[]⟩ := rfl
  rw [e] at h1b
  rw [setCell_eq_setRow _ q 1 _ 132 (0, 0) _ h1b, setRow_heap _ q _ _ 132 (0, 0) h1b]
  rfl
theorem Pd.kept {w w' : World} {q : Nat} {s : RS} (h : Pd w q s) (hb : w'.heap[q]? = w.heap[q]?) : Pd w' q s := ⟨hb.trans h.box, h.len⟩

set_option maxHeartbeats 400000 in
theorem pspoil_any {w : World} {q : Nat} {s : RS} (h : Pd w q s) : Calls Tryz.prog 90 #[.pointer (some ⟨q, 0, none⟩)] w fun e w' => e = .returned (.tuple #[]) ∧ Pd w' q spoiled ∧ w.grownBy w' (some q) := by
  have c0 := h.c0
  have c1 := h.c1
  have f0 := h.f 0
  have f1 := h.f 1
  have HF : Hid (Pd ((w.setCell ⟨q, 0, none⟩ (.string ⟨#[]⟩)).setCell ⟨q, 1, none⟩ (.bool true)) q spoiled ∧ w.grownBy ((w.setCell ⟨q, 0, none⟩ (.string ⟨#[]⟩)).setCell ⟨q, 1, none⟩ (.bool true)) (some q)) :=
    ⟨h.spoil, (Lib.grownBy_setCell w q 0 _).trans (Lib.grownBy_setCell _ q 1 _)⟩
  clear h
  go_enter Tryz.func90, Tryz.ntmps90
  go_wp2
  go_end0
  exact ⟨rfl, HF.out⟩

set_option maxHeartbeats 800000 in
theorem pnum_any {w : World} {q : Nat} {s : RS} (h : Pd w q s) : Calls Tryz.prog 76 #[.pointer (some ⟨q, 0, none⟩)] w fun e w' => e = .returned (.int .i64 (numS s).1) ∧ Pd w' q (numS s).2 ∧ w.grownBy w' (some q) := by
  have c0 := h.c0
  have f0 := h.f 0
  have H10 := hid (readInt_any (strOf s.rest) w (by rw [strOf_size]; exact h.len))
  rw [strOf_data] at H10
  have HS := hid (pspoil_any h)
  have hlen := h.len
  unfold maxLen at hlen
  have hrg := readL_range s.rest
  have HH := hid h
  have HN : Hid (numS s = if (readL s.rest).2.2 = 0 then ((readL s.rest).1, ⟨s.rest.drop (readL s.rest).2.1, s.wrong⟩) else (0, spoiled)) := rfl
  clear h
  have hsz := strOf_size s.rest
  generalize readL s.rest = R at *
  obtain ⟨n, k, e⟩ := R
  simp only at *
  obtain ⟨hn, hk, _⟩ := hrg
  by_cases he : e = 0
  · subst he
    have hx := extract_drop s.rest k
    have HF : Hid (numS s = (n, ⟨s.rest.drop k, s.wrong⟩)) := by show _ = _; rw [HN.out, if_pos rfl]
    have hk' : (k : Int) ≤ ((strOf s.rest).size : Int) := by rw [hsz]; omega
    have HD := hid (HH.out.set0 (s.rest.drop k) (by simp; unfold maxLen; omega))
    go_enter Tryz.func76, Tryz.ntmps76
    go_wp2_with (go_at_call 89; refine H10.out.mono ?_; rintro e w' ⟨rfl, rfl⟩)
    go_ret
    exact ⟨by rw [HF.out]; rfl, by rw [HF.out]; exact HD.out, Lib.grownBy_setCell _ q 0 _⟩
  · have hne : (e != 0) = true := by simp [he]
    have HF : Hid (numS s = (0, spoiled)) := by show _ = _; rw [HN.out, if_neg he]
    clear he
    go_enter Tryz.func76, Tryz.ntmps76
    go_wp2_with (first | (go_at_call 89; refine H10.out.mono ?_; rintro e w' ⟨rfl, rfl⟩) | (go_at_call 90; refine HS.out.mono ?_; rintro e w2 ⟨rfl, hr2, hg2⟩))
    go_ret
    exact ⟨by rw [HF.out]; rfl, by rw [HF.out]; exact hr2, hg2⟩

set_option maxHeartbeats 800000 in
theorem pcount_any {w : World} {q : Nat} {s : RS} (h : Pd w q s) (most : Int) (hm : 0 ≤ most) : Calls Tryz.prog 91 #[.pointer (some ⟨q, 0, none⟩), .int .i64 most] w fun e w' => e = .returned (.int .i64 (countS most s).1) ∧ Pd w' q (countS most s).2 ∧ w.grownBy w' (some q) := by
  have H54 := hid (pnum_any h)
  have HN : Hid (countS most s = if (numS s).1 < 0 ∨ most < (numS s).1 then (0, spoiled) else numS s) := rfl
  clear h
  generalize numS s = N at *
  obtain ⟨n, s1⟩ := N
  simp only at *
  by_cases h1 : n < 0
  · have HF : Hid (countS most s = (0, spoiled)) := by show _ = _; rw [HN.out, if_pos (.inl h1)]
    go_enter Tryz.func91, Tryz.ntmps91
    go_wp2_with (go_at_call 76; refine H54.out.mono ?_; rintro e w1 ⟨rfl, hr1, hg1⟩)
    refine (pspoil_any hr1).mono ?_
    rintro e w2 ⟨rfl, hr2, hg2⟩
    go_wp2
    go_ret
    exact ⟨by rw [HF.out]; rfl, by rw [HF.out]; exact hr2, hg1.trans hg2⟩
  · by_cases h2 : most < n
    · have HF : Hid (countS most s = (0, spoiled)) := by show _ = _; rw [HN.out, if_pos (.inr h2)]
      go_enter Tryz.func91, Tryz.ntmps91
      go_wp2_with (go_at_call 76; refine H54.out.mono ?_; rintro e w1 ⟨rfl, hr1, hg1⟩)
      refine (pspoil_any hr1).mono ?_
      rintro e w2 ⟨rfl, hr2, hg2⟩
      go_wp2
      go_ret
      exact ⟨by rw [HF.out]; rfl, by rw [HF.out]; exact hr2, hg1.trans hg2⟩
    · have HF : Hid (countS most s = (n, s1)) := by show _ = _; rw [HN.out, if_neg (by omega)]
      go_enter Tryz.func91, Tryz.ntmps91
      go_wp2_with (go_at_call 76; refine H54.out.mono ?_; rintro e w1 ⟨rfl, hr1, hg1⟩)
      go_ret
      exact ⟨by rw [HF.out]; rfl, by rw [HF.out]; exact hr1, hg1⟩
set_option maxHeartbeats 1600000 in
theorem ptext_any {w : World} {q : Nat} {s : RS} (h : Pd w q s) (most : Int) (hm : 0 ≤ most) (hm2 : most ≤ 100000) : Calls Tryz.prog 78 #[.pointer (some ⟨q, 0, none⟩), .int .i64 most] w fun e w' => e = .returned (.string (strOf (textS most s).1)) ∧ Pd w' q (textS most s).2 ∧ w.grownBy w' (some q) := by
  have H50 := hid (pcount_any h most hm)
  have HN : Hid (textS most s = if ((countS most s).2.rest.length : Int) < (countS most s).1 then ([], spoiled) else ((countS most s).2.rest.take (countS most s).1.toNat, ⟨(countS most s).2.rest.drop (countS most s).1.toNat, (countS most s).2.wrong⟩)) := rfl
  have hrg := countS_range most s hm
  clear h
  generalize countS most s = N at *
  obtain ⟨n0, s1⟩ := N
  simp only at *
  obtain ⟨n, rfl⟩ := Int.eq_ofNat_of_zero_le hrg.1
  obtain ⟨_, hn⟩ := hrg
  have hsz := strOf_size s1.rest
  by_cases h1 : s1.rest.length < n
  · have h1' : ((strOf s1.rest).size : Int) < (n : Int) := by rw [hsz]; omega
    have h1'' : (s1.rest.length : Int) < (n : Int) := by omega
    have HF : Hid (textS most s = ([], spoiled)) := by show _ = _; rw [HN.out, if_pos (by omega)]
    go_enter Tryz.func78, Tryz.ntmps78
    go_wp2_with (go_at_call 91; refine H50.out.mono ?_; rintro e w1 ⟨rfl, hr1, hg1⟩; have d0 := hr1.c0)
    refine (pspoil_any hr1).mono ?_
    rintro e w2 ⟨rfl, hr2, hg2⟩
    go_wp2
    go_ret
    exact ⟨by rw [HF.out]; rfl, by rw [HF.out]; exact hr2, hg1.trans hg2⟩
  · have h1'' : ¬ (s1.rest.length : Int) < (n : Int) := by omega
    have HF : Hid (textS most s = (s1.rest.take n, ⟨s1.rest.drop n, s1.wrong⟩)) := by show _ = _; rw [HN.out, if_neg (by omega)]; simp
    have hx1 := extract_drop s1.rest n
    have hx2 := extract_take s1.rest n
    go_enter Tryz.func78, Tryz.ntmps78
    go_wp2_with (go_at_call 91; refine H50.out.mono ?_; rintro e w1 ⟨rfl, hr1, hg1⟩; have d0 := hr1.c0; have hl1 := hr1.len; unfold maxLen at hl1)
    refine (clone_any _ _ (by rw [strOf_size]; simp; omega)).mono ?_
    rintro e w2 ⟨rfl, hb2⟩
    have hr2 := hr1.kept (hb2.block q hr1.lt)
    have e0 := hr2.c0
    have f0 := hr2.f 0
    have HD := hid (hr2.set0 (s1.rest.drop n) (by simp; unfold maxLen; omega))
    have hg2 := hid ((hg1.trans (grown_below hb2)).trans (Lib.grownBy_setCell w2 q 0 (.string (strOf (s1.rest.drop n)))))
    clear hb2 hr1 d0
    go_wp2
    go_ret
    exact ⟨by rw [HF.out]; rfl, by rw [HF.out]; exact HD.out, hg2.out⟩

theorem Pd.set {w : World} {q : Nat} {s : RS} (h : Pd w q s) (b j : Nat) (v : Value) (hb : q ≠ b) : Pd (w.setCell ⟨b, j, none⟩ v) q s := h.kept (Below.heap_setCell w ⟨b, j, none⟩ v q hb)
set_option maxHeartbeats 400000 in
theorem pdone_any {w : World} {q : Nat} {s : RS} (h : Pd w q s) : Calls Tryz.prog 77 #[.pointer (some ⟨q, 0, none⟩)] w fun e w' => e = .returned (.bool (doneS s)) ∧ w = w' := by
  have c0 := h.c0
  have c1 := h.c1
  have HN : Hid (doneS s = (!s.wrong && s.rest.isEmpty)) := rfl
  clear h
  obtain ⟨l, wr⟩ := s
  simp only at *
  cases wr with
  | true =>
    go_enter Tryz.func77, Tryz.ntmps77
    go_wp2
    go_ret
    exact ⟨ret_bool (by rw [HN.out]; rfl), rfl⟩
  | false =>
    go_enter Tryz.func77, Tryz.ntmps77
    go_wp2
    go_ret
    exact ⟨ret_bool (by rw [HN.out, Lib.toList_data, strOf_data]; rfl), rfl⟩
end Go.Proofs.YtclldpecbocclaaGreat

/- Epochs without memory: entries, what calls make of them, their bytes. -/
namespace Go.Proofs.YtclldpecbocclaaGreat
set_option linter.unusedSimpArgs false
set_option linter.unusedVariables false

def entsB : List (Int × Int) → List UInt8
  | [] => []
  | x :: r => intsL [x.1, x.2] ++ entsB r
def ebody (l : List (Int × Int)) : List UInt8 := intL l.length ++ entsB l
def sealL (t : List UInt8) : List UInt8 := fourL (crcL t) ++ t
def ebytes (l : List (Int × Int)) : List UInt8 := sealL (ebody l)
def pairsS : Nat → RS → List (Int × Int) × RS
  | 0, s => ([], s)
  | n + 1, s => (((numS s).1, (numS (numS s).2).1) :: (pairsS n (numS (numS s).2).2).1, (pairsS n (numS (numS s).2).2).2)
def riseB : Int → Int → List (Int × Int) → Bool
  | _, _, [] => true
  | e, o, x :: r => decide (e < x.1) && decide (o < x.2) && inB x.1 && inB x.2 && riseB x.1 x.2 r
def eload (b : List UInt8) : List (Int × Int) × Int :=
  if b.length < 4 then ([], 5)
  else if fourN b ≠ crcL (b.drop 4) then ([], 6)
  else if doneS (pairsS (countS 200 ⟨b.drop 4, false⟩).1.toNat (countS 200 ⟨b.drop 4, false⟩).2).2 && riseB (-1) (-1) (pairsS (countS 200 ⟨b.drop 4, false⟩).1.toNat (countS 200 ⟨b.drop 4, false⟩).2).1 then
    ((pairsS (countS 200 ⟨b.drop 4, false⟩).1.toNat (countS 200 ⟨b.drop 4, false⟩).2).1, 0)
  else ([], 4)

/-- Entries that may be a cache's. -/
structure EOk (l : List (Int × Int)) : Prop where
  rise : l.Pairwise (fun x y => x.1 < y.1 ∧ x.2 < y.2)
  num : ∀ x ∈ l, (0 ≤ x.1 ∧ x.1 ≤ 1000000000) ∧ (0 ≤ x.2 ∧ x.2 ≤ 1000000000)
  few : l.length ≤ 200

theorem riseB_iff : ∀ (l : List (Int × Int)) (e o : Int), riseB e o l = true ↔ l.Pairwise (fun x y => x.1 < y.1 ∧ x.2 < y.2) ∧ ∀ x ∈ l, ((0 ≤ x.1 ∧ x.1 ≤ 1000000000) ∧ (0 ≤ x.2 ∧ x.2 ≤ 1000000000)) ∧ e < x.1 ∧ o < x.2
  | [], e, o => by simp [riseB]
  | x :: r, e, o => by
    simp only [riseB, Bool.and_eq_true, decide_eq_true_eq, inB_iff, riseB_iff r x.1 x.2, List.pairwise_cons, List.mem_cons, forall_eq_or_imp]
    constructor
    · rintro ⟨⟨⟨⟨h1, h2⟩, h3⟩, h4⟩, h5, h6⟩
      exact ⟨⟨fun y hy => (h6 y hy).2, h5⟩, ⟨⟨h3, h4⟩, h1, h2⟩, fun y hy => ⟨(h6 y hy).1, by have := (h6 y hy).2; omega, by have := (h6 y hy).2; omega⟩⟩
    · rintro ⟨⟨h1, h2⟩, ⟨⟨h3, h4⟩, h5, h6⟩, h7⟩
      exact ⟨⟨⟨⟨h5, h6⟩, h3⟩, h4⟩, h2, fun y hy => ⟨(h7 y hy).1, h1 y hy⟩⟩
theorem eok_rise {l : List (Int × Int)} (h : EOk l) : riseB (-1) (-1) l = true :=
  (riseB_iff l _ _).2 ⟨h.rise, fun x hx => ⟨h.num x hx, by have := h.num x hx; omega, by have := h.num x hx; omega⟩⟩
theorem eok_of {l : List (Int × Int)} (h : riseB (-1) (-1) l = true) (hl : l.length ≤ 200) : EOk l := by
  obtain ⟨h1, h2⟩ := (riseB_iff l _ _).1 h
  exact ⟨h1, fun x hx => (h2 x hx).1, hl⟩

theorem entsB_append : ∀ l m : List (Int × Int), entsB (l ++ m) = entsB l ++ entsB m
  | [], m => rfl
  | x :: r, m => by simp [entsB, entsB_append r m]
theorem entsB_take (l : List (Int × Int)) (k : Nat) (h : k < l.length) : entsB (l.take (k + 1)) = entsB (l.take k) ++ intsL [l[k].1, l[k].2] := by
  rw [← List.take_append_getElem h, entsB_append]
  simp [entsB]
theorem entsB_length : ∀ l : List (Int × Int), (entsB l).length ≤ l.length * 20
  | [] => by simp [entsB]
  | x :: r => by
    have := entsB_length r
    have h2 := intsL_length [x.1, x.2]
    simp only [List.length_cons, List.length_nil] at h2
    simp only [entsB, List.length_append, List.length_cons]
    omega
theorem ebody_length (l : List (Int × Int)) : (ebody l).length ≤ 10 + l.length * 20 := by
  have := entsB_length l
  have h2 := (intL_length (l.length : Int)).2
  simp only [ebody, List.length_append]
  omega
theorem sealL_length (t : List UInt8) : (sealL t).length = 4 + t.length := by simp [sealL, fourL]; omega
theorem ebytes_length (l : List (Int × Int)) : (ebytes l).length ≤ 14 + l.length * 20 := by
  have := ebody_length l
  unfold ebytes
  rw [sealL_length]
  omega
theorem seal_drop (t : List UInt8) : (sealL t).drop 4 = t := rfl
theorem seal_four (t : List UInt8) : fourN (sealL t) = crcL t := fourN_fourL _ _ (crcL_lt t)

theorem pairs_back : ∀ (l : List (Int × Int)) (more : List UInt8), (∀ x ∈ l, I64 x.1 ∧ I64 x.2) → pairsS l.length ⟨entsB l ++ more, false⟩ = (l, ⟨more, false⟩)
  | [], more, _ => rfl
  | x :: r, more, h => by
    have ih := pairs_back r more (fun y hy => h y (by simp [hy]))
    obtain ⟨h1, h2⟩ := h x (by simp)
    have e : entsB (x :: r) ++ more = intL x.1 ++ (intL x.2 ++ (entsB r ++ more)) := by simp [entsB, intsL]
    simp only [List.length_cons, pairsS, e, numS_intL _ _ h1, numS_intL _ _ h2, ih]
theorem num_i64 {n : Int} (h : 0 ≤ n ∧ n ≤ 1000000000) : I64 n := by unfold I64; omega
/-- What is written is read. -/
theorem eload_ebytes {l : List (Int × Int)} (h : EOk l) : eload (ebytes l) = (l, 0) := by
  have hf := h.few
  have e1 : countS 200 ⟨ebody l, false⟩ = ((l.length : Int), ⟨entsB l, false⟩) := countS_intL 200 _ _ (by unfold I64; omega) (by omega) (by omega)
  have e2 := pairs_back l [] (fun x hx => ⟨num_i64 (h.num x hx).1, num_i64 (h.num x hx).2⟩)
  rw [List.append_nil] at e2
  unfold eload ebytes
  rw [seal_drop, seal_four, e1, if_neg (by rw [sealL_length]; omega), if_neg (by simp)]
  simp only [Int.toNat_natCast, e2, eok_rise h, doneS]
  rfl
theorem pairs_length : ∀ (n : Nat) (s : RS), (pairsS n s).1.length = n
  | 0, s => rfl
  | n + 1, s => by simp [pairsS, pairs_length n]
theorem countS_rng (most : Int) (s : RS) (h : 0 ≤ most) : 0 ≤ (countS most s).1 ∧ (countS most s).1 ≤ most := by
  unfold countS
  split
  · simp; exact h
  · omega
/-- What is read may be a cache's. -/
theorem eload_ok {b : List UInt8} (h : (eload b).2 = 0) : EOk (eload b).1 := by
  unfold eload at h ⊢
  have hr := countS_rng 200 ⟨b.drop 4, false⟩ (by omega)
  generalize countS 200 ⟨b.drop 4, false⟩ = C at *
  have hp := pairs_length C.1.toNat C.2
  generalize pairsS C.1.toNat C.2 = P at *
  by_cases h1 : b.length < 4
  · rw [if_pos h1] at h; cases h
  · rw [if_neg h1] at h ⊢
    by_cases h2 : fourN b ≠ crcL (b.drop 4)
    · rw [if_pos h2] at h; cases h
    · rw [if_neg h2] at h ⊢
      cases h3 : (doneS P.2 && riseB (-1) (-1) P.1) with
      | false => rw [h3] at h; cases h
      | true =>
        simp only [if_true]
        refine eok_of ?_ (by rw [hp]; omega)
        simp at h3
        exact h3.2
theorem eload_no {b : List UInt8} (h : (eload b).2 ≠ 0) : (eload b).1 = [] := by
  unfold eload at h ⊢
  split
  · rfl
  · split
    · rfl
    · split
      · rename_i a b c
        rw [if_neg a, if_neg b, if_pos c] at h
        exact absurd rfl h
      · rfl
theorem eload_le (b : List UInt8) : 0 ≤ (eload b).2 ∧ (eload b).2 ≤ 6 := by
  unfold eload
  split
  · simp
  · split
    · simp
    · split <;> simp

/-- What begins ahead of an offset. -/
def cutW (l : List (Int × Int)) (o : Int) : List (Int × Int) := l.filter fun x => decide (x.2 < o)
/-- Where halving comes out. -/
structure FoundAt (l : List (Int × Int)) (p : Int × Int → Bool) (r : Nat) : Prop where
  le : r ≤ l.length
  ahead : r = 0 ∨ ∀ x, l[r - 1]? = some x → p x = false
  at_ : r = l.length ∨ ∀ x, l[r]? = some x → p x = true
theorem pair_at {l : List (Int × Int)} (h : l.Pairwise (fun x y => x.1 < y.1 ∧ x.2 < y.2)) {i j : Nat} {x y : Int × Int} (hi : l[i]? = some x) (hj : l[j]? = some y) (hij : i < j) : x.1 < y.1 ∧ x.2 < y.2 := by
  obtain ⟨a1, a2⟩ := List.getElem?_eq_some_iff.1 hi
  obtain ⟨b1, b2⟩ := List.getElem?_eq_some_iff.1 hj
  have := List.pairwise_iff_getElem.1 h i j a1 b1 hij
  rw [a2, b2] at this
  exact this
/-- All ahead of it are not so, all behind it are. -/
theorem FoundAt.both {l : List (Int × Int)} {p : Int × Int → Bool} {r : Nat} (f : FoundAt l p r) (h : EOk l) (hp : ∀ x y : Int × Int, x.1 < y.1 ∧ x.2 < y.2 → p x = true → p y = true) :
    (∀ (i : Nat) x, l[i]? = some x → (p x = true ↔ r ≤ i)) := by
  intro i x hx
  have hi := (List.getElem?_eq_some_iff.1 hx).1
  constructor
  · intro hpx
    rcases Nat.lt_or_ge i r with hlt | hge
    · exfalso
      have hr := f.le
      rcases f.ahead with h0 | h0
      · omega
      · have hl : r - 1 < l.length := by omega
        have hy : l[r - 1]? = some l[r - 1] := by simp [hl]
        have hf := h0 _ hy
        rcases Nat.lt_or_ge i (r - 1) with h1 | h1
        · have := hp x l[r - 1] (pair_at h.rise hx hy h1) hpx
          rw [hf] at this; cases this
        · have e : i = r - 1 := by omega
          subst e
          rw [hx] at hy
          have := h0 x hx
          rw [hpx] at this; cases this
    · exact hge
  · intro hri
    rcases f.at_ with h0 | h0
    · omega
    · have hl : r < l.length := by omega
      have hy : l[r]? = some l[r] := by simp [hl]
      have hf := h0 _ hy
      rcases Nat.lt_or_ge r i with h1 | h1
      · exact hp l[r] x (pair_at h.rise hy hx h1) hf
      · have e : i = r := by omega
        subst e
        exact h0 x hx
theorem filter_take (l : List (Int × Int)) (q : Int × Int → Bool) (r : Nat) (h : ∀ (i : Nat) x, l[i]? = some x → (q x = true ↔ i < r)) : l.filter q = l.take r := by
  conv => lhs; rw [← List.take_append_drop r l]
  rw [List.filter_append]
  have h1 : (l.take r).filter q = l.take r := List.filter_eq_self.2 (fun x hx => by
    obtain ⟨i, hi, e⟩ := List.getElem_of_mem hx
    rw [List.length_take] at hi
    refine (h i x ?_).2 (by omega)
    rw [← e, List.getElem_take]
    simp <;> omega)
  have h2 : (l.drop r).filter q = [] := List.filter_eq_nil_iff.2 (fun x hx => by
    obtain ⟨i, hi, e⟩ := List.getElem_of_mem hx
    rw [List.length_drop] at hi
    intro hq
    have := (h (r + i) x (by rw [← e, List.getElem_drop]; simp <;> omega)).1 hq
    omega)
  rw [h1, h2, List.append_nil]
theorem found_cut {l : List (Int × Int)} {o : Int} {r : Nat} (h : EOk l) (f : FoundAt l (fun x => decide (o ≤ x.2)) r) : l.take r = cutW l o := by
  have hb := f.both h (fun x y hxy hx => by simp at hx ⊢; omega)
  refine (filter_take l _ r (fun i x hx => ?_)).symm
  have := hb i x hx
  simp only [decide_eq_true_eq] at this ⊢
  omega
theorem EOk.sub {l m : List (Int × Int)} (h : EOk l) (hs : m.Sublist l) : EOk m :=
  ⟨h.rise.sublist hs, fun x hx => h.num x (hs.subset hx), by have := hs.length_le; have := h.few; omega⟩
theorem EOk.cut {l : List (Int × Int)} (h : EOk l) (o : Int) : EOk (cutW l o) := h.sub List.filter_sublist

/-- What Begin makes of entries: the error, or what is kept. -/
def newW (l : List (Int × Int)) (e o : Int) : Nat × List (Int × Int) := if 200 ≤ (cutW l o).length then (3, l) else (0, cutW l o ++ [(e, o)])
def beginW (l : List (Int × Int)) (e o : Int) : Nat × List (Int × Int) :=
  if ¬ ((0 ≤ e ∧ e ≤ 1000000000) ∧ (0 ≤ o ∧ o ≤ 1000000000)) then (1, l)
  else match l.getLast? with
    | none => newW l e o
    | some x => if e = x.1 ∧ x.2 ≤ o then (0, l) else if e ≤ x.1 then (13, l) else newW l e o
/-- What Delete makes of entries. -/
def delW (l : List (Int × Int)) (o : Int) : List (Int × Int) :=
  match (l.filter fun x => decide (x.2 ≤ o)).getLast? with
  | none => l
  | some x => (x.1, o) :: l.filter fun x => decide (o < x.2)
theorem mem_cutW {l : List (Int × Int)} {o : Int} {x : Int × Int} : x ∈ cutW l o ↔ x ∈ l ∧ x.2 < o := by simp [cutW]
theorem getLast_top {l : List (Int × Int)} {x : Int × Int} (h : l.Pairwise (fun x y => x.1 < y.1 ∧ x.2 < y.2)) (hx : l.getLast? = some x) : ∀ y ∈ l, y.1 ≤ x.1 ∧ y.2 ≤ x.2 := by
  intro y hy
  obtain ⟨l', rfl⟩ := List.getLast?_eq_some_iff.1 hx
  rw [List.pairwise_append] at h
  rcases List.mem_append.1 hy with h1 | h1
  · have := h.2.2 y h1 x (by simp); omega
  · simp at h1; subst h1; omega
theorem newW_ok {l : List (Int × Int)} (h : EOk l) {e o : Int} (he : 0 ≤ e ∧ e ≤ 1000000000) (ho : 0 ≤ o ∧ o ≤ 1000000000) (ht : ∀ y ∈ l, y.1 < e) : EOk (newW l e o).2 := by
  unfold newW
  split
  · exact h
  · rename_i hl
    have hc := h.cut o
    refine ⟨?_, fun x hx => ?_, by simp; omega⟩
    · rw [List.pairwise_append]
      refine ⟨hc.rise, by simp, fun x hx y hy => ?_⟩
      simp at hy; subst hy
      obtain ⟨h1, h2⟩ := mem_cutW.1 hx
      exact ⟨ht x h1, h2⟩
    · rcases List.mem_append.1 hx with h1 | h1
      · exact hc.num x h1
      · simp at h1; subst h1; exact ⟨he, ho⟩
theorem beginW_ok {l : List (Int × Int)} (h : EOk l) (e o : Int) : EOk (beginW l e o).2 := by
  unfold beginW
  by_cases hn : (0 ≤ e ∧ e ≤ 1000000000) ∧ (0 ≤ o ∧ o ≤ 1000000000)
  · rw [if_neg (fun h => h hn)]
    cases hx : l.getLast? with
    | none =>
      have : l = [] := List.getLast?_eq_none_iff.1 hx
      exact newW_ok h hn.1 hn.2 (fun y hy => by subst this; simp at hy)
    | some x =>
      simp only
      split
      · exact h
      · split
        · exact h
        · rename_i h1 h2
          exact newW_ok h hn.1 hn.2 (fun y hy => by have := getLast_top h.rise hx y hy; omega)
  · rw [if_pos hn]; exact h
theorem delW_ok {l : List (Int × Int)} (h : EOk l) {o : Int} (ho : 0 ≤ o ∧ o ≤ 1000000000) : EOk (delW l o) := by
  unfold delW
  cases hx : (l.filter fun x => decide (x.2 ≤ o)).getLast? with
  | none => exact h
  | some x =>
    simp only
    have hm : x ∈ l.filter fun x => decide (x.2 ≤ o) := List.mem_of_getLast? hx
    simp at hm
    have hs : EOk (l.filter fun x => decide (o < x.2)) := h.sub List.filter_sublist
    refine ⟨List.pairwise_cons.2 ⟨fun y hy => ?_, hs.rise⟩, fun y hy => ?_, ?_⟩
    · simp at hy
      refine ⟨?_, hy.2⟩
      obtain ⟨i, hi, ei⟩ := List.getElem_of_mem hm.1
      obtain ⟨j, hj, ej⟩ := List.getElem_of_mem hy.1
      have hi' : l[i]? = some x := by rw [← ei]; simp [hi]
      have hj' : l[j]? = some y := by rw [← ej]; simp [hj]
      rcases Nat.lt_trichotomy i j with h1 | h1 | h1
      · exact (pair_at h.rise hi' hj' h1).1
      · subst h1; rw [hi'] at hj'; cases hj'; omega
      · have := (pair_at h.rise hj' hi' h1).2; omega
    · rcases List.mem_cons.1 hy with h1 | h1
      · subst h1; exact ⟨(h.num x hm.1).1, ho⟩
      · exact hs.num y h1
    · have hlen : (l.filter fun x => decide (o < x.2)).length < l.length := by
        rcases Nat.lt_or_ge (l.filter fun x => decide (o < x.2)).length l.length with h1 | h1
        · exact h1
        · have := List.filter_sublist (p := fun x : Int × Int => decide (o < x.2)) (l := l) |>.eq_of_length_le h1
          have := List.filter_eq_self.1 this x hm.1
          simp at this; omega
      have := h.few
      simp only [List.length_cons]; omega
end Go.Proofs.YtclldpecbocclaaGreat

/- Seal and Unseal; what the file has of entries. -/
namespace Go.Proofs.YtclldpecbocclaaGreat
open Go.RowKit Go.Maps
set_option maxRecDepth 100000
set_option linter.unusedSimpArgs false
set_option linter.unusedVariables false

set_option maxHeartbeats 400000 in
theorem pfour_any (n : Nat) (w : World) (h : n < 4294967296) : Calls Tryz.prog 62 #[.int .i64 (n : Int)] w fun e w' => e = .returned (.string (strOf (fourL n))) ∧ Below w.heap.size w w' := by
  have hcv := four_conv w n h
  go_enter Tryz.func62, Tryz.ntmps62
  go_wp2
  go_ret
  exact ⟨rfl, (Below.refl _ _).alloc (Nat.le_refl _) _⟩

set_option maxHeartbeats 400000 in
theorem preadFour_any (s : ByteArray) (w : World) (h4 : 4 ≤ s.size) (hs : s.size ≤ maxLen) :
    Calls Tryz.prog 88 #[.string s] w fun e w' => e = .returned (.int .i64 (fourN s.data.toList : Nat)) ∧ w = w' := by
  unfold maxLen at hs
  go_enter Tryz.func88, Tryz.ntmps88
  go_wp2
  go_loop [3, 5] (fun c i => ∃ k : Nat, k ≤ 4 ∧ i = .int .i64 k ∧ c = .int .i64 (accN (s.data.toList.take k) : Nat)) (fun _ i => 4 - (intOf i).toNat)
  case atStart => exact ⟨0, Nat.zero_le _, rfl, rfl⟩
  case round =>
    obtain ⟨k, hk, rfl, rfl⟩ := hrel
    by_cases hlt : k < 4
    · have hlt' : (k : Int) < 4 := by omega
      have hA := accN_lt s k hk (by omega)
      have h3 : 256 ^ k ≤ 256 ^ 3 := Nat.pow_le_pow_right (by omega) (by omega)
      have hks : k < s.size := by omega
      have hks' : (k : Int) < (s.size : Int) := by omega
      have hsn : Hid (accN (s.data.toList.take (k + 1)) = accN (s.data.toList.take k) * 256 + s[k].toNat) := by show _ = _; rw [take_snoc s k hks, accN_snoc]
      have hA2 : accN (s.data.toList.take k) < 16777216 := by omega
      clear hA h3
      generalize accN (s.data.toList.take k) = A at *
      have hb := s[k].toNat_lt
      have hor := or_byte A s[k].toNat hA2 (by omega)
      generalize hZ : A * 256 + s[k].toNat = Z at *
      clear hZ
      go_wp2
      go_round
      case rel => exact ⟨k + 1, by omega, by go_num, by rw [hsn.out]⟩
      case measure => simp [intOf]; omega
    · have hlt' : ¬ (k : Int) < 4 := by omega
      have hk4 : k = 4 := by omega
      have HF := hid (accN_four s.data.toList (by simpa using h4))
      subst hk4
      go_wp2
      go_ret
      exact ⟨ret_int (by rw [HF.out]), rfl⟩

set_option maxHeartbeats 400000 in
theorem pseal_any (t : List UInt8) (w : World) (h : t.length ≤ 1000000) : Calls Tryz.prog 51 #[.string (strOf t)] w fun e w' => e = .returned (.string (strOf (sealL t))) ∧ Below w.heap.size w w' := by
  have HC := hid (crc_any (strOf t) w (by rw [strOf_size]; unfold maxLen; omega))
  rw [strOf_data] at HC
  have HF := hid (pfour_any (crcL t) w (crcL_lt t))
  have hsz := strOf_size t
  have hsz4 := strOf_size (fourL (crcL t))
  have h4 : (fourL (crcL t)).length = 4 := rfl
  have HA := hid (strOf_append (fourL (crcL t)) t)
  go_enter Tryz.func51, Tryz.ntmps51
  go_wp2_with (first | (go_at_call 69; refine HC.out.mono ?_; rintro e w1 ⟨rfl, rfl⟩) | (go_at_call 62; refine HF.out.mono ?_; rintro e w2 ⟨rfl, hb2⟩))
  go_ret
  exact ⟨by rw [HA.out]; rfl, hb2⟩
set_option maxHeartbeats 800000 in
theorem punseal_any (b : List UInt8) (w : World) (h : b.length ≤ 100000000) : Calls Tryz.prog 74 #[.string (strOf b)] w fun e w' =>
    e = .returned (if b.length < 4 then .tuple #[.string ⟨#[]⟩, .int .i64 5] else if fourN b ≠ crcL (b.drop 4) then .tuple #[.string ⟨#[]⟩, .int .i64 6] else .tuple #[.string (strOf (b.drop 4)), .int .i64 0]) ∧ w' = w := by
  have hsz := strOf_size b
  by_cases h4 : b.length < 4
  · rw [if_pos h4]
    have h4' : ((strOf b).size : Int) < 4 := by omega
    have h4'' : (b.length : Int) < 4 := by omega
    go_enter Tryz.func74, Tryz.ntmps74
    go_wp2
    go_ret2
    exact ⟨rfl, rfl⟩
  · rw [if_neg h4]
    have h4' : ¬ ((strOf b).size : Int) < 4 := by omega
    have h4'' : ¬ (b.length : Int) < 4 := by omega
    have hx := extract_drop b 4
    have HR := hid (preadFour_any (strOf b) w (by omega) (by unfold maxLen; omega))
    rw [strOf_data] at HR
    have HC := hid (crc_any (strOf (b.drop 4)) w (by rw [strOf_size]; simp; unfold maxLen; omega))
    rw [strOf_data] at HC
    have h5 : (4 : Int) ≤ ((strOf b).size : Int) := by omega
    have h5' : (4 : Int) ≤ (b.length : Int) := by omega
    generalize crcL (b.drop 4) = C at *
    generalize fourN b = F at *
    by_cases he : F = C
    · subst he
      rw [if_neg (fun h => h rfl)]
      go_enter Tryz.func74, Tryz.ntmps74
      go_wp2_with (first | (go_at_call 88; refine HR.out.mono ?_; rintro e w1 ⟨rfl, rfl⟩) | (go_at_call 69; refine HC.out.mono ?_; rintro e w1 ⟨rfl, rfl⟩))
      go_ret2
      exact ⟨rfl, rfl⟩
    · rw [if_pos he]
      have hne : ((F : Int) != (C : Int)) = true := by simp; omega
      go_enter Tryz.func74, Tryz.ntmps74
      go_wp2_with (first | (go_at_call 88; refine HR.out.mono ?_; rintro e w1 ⟨rfl, rfl⟩) | (go_at_call 69; refine HC.out.mono ?_; rintro e w1 ⟨rfl, rfl⟩))
      go_ret2
      exact ⟨rfl, rfl⟩

end Go.Proofs.YtclldpecbocclaaGreat

/- Raft's log without memory: entries, their bytes, a state, what calls make of it. -/
namespace Go.Proofs.YtclldpecbocclaaGreat
set_option linter.unusedSimpArgs false
set_option linter.unusedVariables false

structure Et where
  t : Int
  i : Int
  d : List UInt8
instance : DecidableEq Et := fun x y => decidable_of_iff (x.t = y.t ∧ x.i = y.i ∧ x.d = y.d) (by cases x; cases y; simp)
def e0 : Et := ⟨0, 0, []⟩
def bodyE (x : Et) : List UInt8 := intsL [x.t, x.i] ++ textL x.d
def entB (x : Et) : List UInt8 := fourL (bodyE x).length ++ sealL (bodyE x)
def logB : List Et → List UInt8
  | [] => []
  | x :: r => entB x ++ logB r
def termB (t v : Int) : List UInt8 := sealL (intsL [t, v])
def snapB (x : Et) : List UInt8 := sealL (intsL [x.i, x.t] ++ textL x.d)

theorem logB_append : ∀ l m : List Et, logB (l ++ m) = logB l ++ logB m
  | [], m => rfl
  | x :: r, m => by simp [logB, logB_append r m]
theorem textL_len2 (t : List UInt8) : t.length ≤ (textL t).length ∧ (textL t).length ≤ 10 + t.length := by
  unfold textL
  have := intL_length (t.length : Int)
  simp only [List.length_append]
  omega
theorem bodyE_length (x : Et) : x.d.length ≤ (bodyE x).length ∧ (bodyE x).length ≤ 30 + x.d.length := by
  unfold bodyE
  have h1 := intsL_length [x.t, x.i]
  have h2 := textL_len2 x.d
  simp only [List.length_append, List.length_cons, List.length_nil] at *
  omega
theorem entB_length (x : Et) : (entB x).length = 8 + (bodyE x).length := by
  unfold entB
  have h1 := sealL_length (bodyE x)
  have h2 : (fourL (bodyE x).length).length = 4 := rfl
  simp only [List.length_append]
  omega
theorem logB_length_le : ∀ (l : List Et) (m : Nat), (∀ x ∈ l, x.d.length ≤ m) → (logB l).length ≤ l.length * (38 + m)
  | [], m, h => by simp [logB]
  | x :: r, m, h => by
    have ih := logB_length_le r m (fun y hy => h y (by simp [hy]))
    have h1 := entB_length x
    have h2 := bodyE_length x
    have h3 := h x (by simp)
    simp only [logB, List.length_append, List.length_cons]
    have h4 : (r.length + 1) * (38 + m) = r.length * (38 + m) + (38 + m) := by rw [Nat.add_mul]; omega
    omega
theorem logB_length_ge : ∀ (l : List Et), l.length * 8 ≤ (logB l).length
  | [] => by simp [logB]
  | x :: r => by
    have ih := logB_length_ge r
    have h1 := entB_length x
    simp only [logB, List.length_append, List.length_cons]
    omega
theorem logB_split (l : List Et) (n : Nat) : logB l = logB (l.take n) ++ logB (l.drop n) := by
  rw [← logB_append, List.take_append_drop]
theorem logB_take (l : List Et) (n : Nat) : (logB l).take ((logB l).length - (logB (l.drop n)).length) = logB (l.take n) := by
  have h := logB_split l n
  have h2 : (logB l).length - (logB (l.drop n)).length = (logB (l.take n)).length := by rw [h, List.length_append]; omega
  rw [h2]
  rw [h, List.take_append_of_le_length (Nat.le_refl _), List.take_length]
theorem logB_step (l : List Et) (k : Nat) (h : k < l.length) : logB (l.take (k + 1)) = logB (l.take k) ++ entB l[k] := by
  rw [List.take_succ_eq_append_getElem h, logB_append]
  simp [logB]

/-- A log: what it keeps; which of its files are there. -/
structure LSt where
  term : Int
  vote : Int
  snap : Et
  list : List Et
  hl : Bool
  hs : Bool
  ht : Bool
def nL : ByteArray := ⟨#[114, 46, 108, 111, 103]⟩
def nS : ByteArray := ⟨#[114, 46, 115, 110, 97, 112]⟩
def nT : ByteArray := ⟨#[114, 46, 116, 101, 114, 109]⟩
def fsOf (l s t : Option (List UInt8)) : List AF :=
  (match l with | some b => [⟨nL.data.toList, b, b.length⟩] | none => []) ++ ((match s with | some b => [⟨nS.data.toList, b, b.length⟩] | none => []) ++ (match t with | some b => [⟨nT.data.toList, b, b.length⟩] | none => []))
def lB (s : LSt) : Option (List UInt8) := if s.hl then some (logB s.list) else none
def sB (s : LSt) : Option (List UInt8) := if s.hs then some (snapB s.snap) else none
def tB (s : LSt) : Option (List UInt8) := if s.ht then some (termB s.term s.vote) else none
def LSt.fs (s : LSt) : List AF := fsOf (lB s) (sB s) (tB s)
def s0 : LSt := ⟨0, 0, e0, [], false, false, false⟩
theorem s0_fs : s0.fs = [] := rfl

def atE (s : LSt) (idx : Int) : Option Et := if idx < s.snap.i + 1 ∨ s.snap.i + 1 + (s.list.length : Int) ≤ idx then none else s.list[(idx - (s.snap.i + 1)).toNat]?
def aheadE (s : LSt) (idx : Int) : Et := (atE s (idx - 1)).getD s.snap
def lastE (s : LSt) : Et := aheadE s (s.snap.i + 1 + (s.list.length : Int))
def idB (n : Int) : Bool := decide (1 ≤ n) && decide (n ≤ 1000000000)
def numB (n : Int) : Bool := decide (0 ≤ n) && decide (n ≤ 1000000000)
theorem idB_iff (n : Int) : idB n = true ↔ 1 ≤ n ∧ n ≤ 1000000000 := by simp [idB]
theorem numB_iff (n : Int) : numB n = true ↔ 0 ≤ n ∧ n ≤ 1000000000 := by simp [numB]
def badE (after : Int) (k : Nat) (t : Int) (x : Et) : Bool := decide (x.i ≠ after + 1 + (k : Int)) || !idB x.i || !idB x.t || decide (x.t < t)
def rightE (after : Int) : Nat → Int → List Et → Nat
  | _, _, [] => 0
  | k, t, x :: r => if badE after k t x = true then 1 else if 2048 < x.d.length then 2 else rightE after (k + 1) x.t r
def knownE (s : LSt) (x : Et) : Bool := decide (x.i ≤ s.snap.i) || (match atE s x.i with | some y => decide (y.t = x.t) | none => false)
def unkE (s : LSt) : List Et → List Et
  | [] => []
  | x :: r => if knownE s x = true then unkE s r else x :: r
def putE (free : Nat) (s : LSt) (after : Int) (l2 : List Et) : Nat × LSt :=
  if after < 0 ∨ (lastE s).i < after then (10, s)
  else if rightE after 0 1 l2 ≠ 0 then (rightE after 0 1 l2, s)
  else match unkE s l2 with
    | [] => (0, s)
    | x :: r =>
      if x.t < (aheadE s x.i).t then (1, s)
      else if free + (logB (s.list.drop (x.i - (s.snap.i + 1)).toNat)).length < (logB (x :: r)).length then (7, s)
      else (0, { s with list := s.list.take (x.i - (s.snap.i + 1)).toNat ++ (x :: r), hl := true })
def beginE (s : LSt) (snap : Et) : List Et := match atE s snap.i with | some y => if y.t = snap.t then s.list.drop (snap.i - s.snap.i).toNat else [] | none => []
def snapE (size : Nat) (s : LSt) (index term : Int) (data : List UInt8) : Nat × LSt :=
  if idB index = false ∨ idB term = false then (1, s)
  else if 60000 < data.length then (2, s)
  else if index ≤ s.snap.i then (10, s)
  else if term < s.snap.t then (1, s)
  else if repE size s.fs nS (strOf (snapB ⟨term, index, data⟩)) ≠ 0 then (repE size s.fs nS (strOf (snapB ⟨term, index, data⟩)), s)
  else (0, { s with snap := ⟨term, index, data⟩, list := beginE s ⟨term, index, data⟩, hs := true })
def turnE (size : Nat) (s : LSt) (term vote : Int) : Nat × LSt :=
  if numB term = false ∨ numB vote = false then (1, s)
  else if term < s.term then (13, s)
  else if term = s.term ∧ vote = s.vote then (0, s)
  else if term = s.term ∧ s.vote ≠ 0 then (19, s)
  else if repE size s.fs nT (strOf (termB term vote)) ≠ 0 then (repE size s.fs nT (strOf (termB term vote)), s)
  else (0, { s with term := term, vote := vote, ht := true })

/-- A log as it may be. -/
structure LOk (s : LSt) : Prop where
  idx : ∀ (k : Nat) x, s.list[k]? = some x → x.i = s.snap.i + 1 + (k : Int)
  rise : (s.snap :: s.list).Pairwise (fun x y => x.t ≤ y.t)
  rng : ∀ x ∈ s.list, (1 ≤ x.t ∧ x.t ≤ 1000000000) ∧ (1 ≤ x.i ∧ x.i ≤ 1000000000) ∧ x.d.length ≤ 2048
  srng : (0 ≤ s.snap.t ∧ s.snap.t ≤ 1000000000) ∧ (0 ≤ s.snap.i ∧ s.snap.i ≤ 1000000000) ∧ s.snap.d.length ≤ 60000
  hs : (s.hs = false → s.snap = e0) ∧ (s.hs = true → 1 ≤ s.snap.t ∧ 1 ≤ s.snap.i)
  hl : s.hl = false → s.list = []
  tv : (0 ≤ s.term ∧ s.term ≤ 1000000000) ∧ (0 ≤ s.vote ∧ s.vote ≤ 1000000000)
  ht : s.ht = false → s.term = 0 ∧ s.vote = 0
theorem s0_ok : LOk s0 := ⟨fun k x h => by simp [s0] at h, by simp [s0], by simp [s0], by simp [s0, e0], by simp [s0], by simp [s0], by simp [s0], by simp [s0]⟩
theorem atE_some {s : LSt} {idx : Int} {x : Et} (h : atE s idx = some x) : ∃ k : Nat, idx = s.snap.i + 1 + (k : Int) ∧ k < s.list.length ∧ s.list[k]? = some x ∧ (idx - (s.snap.i + 1)).toNat = k := by
  unfold atE at h
  split at h
  · cases h
  · rename_i hn
    refine ⟨(idx - (s.snap.i + 1)).toNat, by omega, ?_, h, rfl⟩
    exact (List.getElem?_eq_some_iff.1 h).1
theorem atE_at (s : LSt) (k : Nat) : atE s (s.snap.i + 1 + (k : Int)) = s.list[k]? := by
  unfold atE
  by_cases h : k < s.list.length
  · rw [if_neg (by omega)]
    congr 1
    omega
  · rw [if_pos (by omega), List.getElem?_eq_none (by omega)]
theorem atE_none {s : LSt} {idx : Int} (h : atE s idx = none) : idx < s.snap.i + 1 ∨ s.snap.i + 1 + (s.list.length : Int) ≤ idx := by
  unfold atE at h
  split at h
  · assumption
  · rename_i hn
    have := List.getElem?_eq_none_iff.1 h
    omega
theorem lastE_eq (s : LSt) : lastE s = s.list.getLast?.getD s.snap := by
  unfold lastE aheadE
  have e : s.snap.i + 1 + (s.list.length : Int) - 1 = s.snap.i + (s.list.length : Int) := by omega
  rw [e]
  cases hl : s.list with
  | nil =>
    have : atE s (s.snap.i + (([] : List Et).length : Int)) = none := by unfold atE; rw [if_pos (.inl (by simp; omega))]
    rw [this]; simp
  | cons x r =>
    have e2 : s.snap.i + ((x :: r).length : Int) = s.snap.i + 1 + (r.length : Int) := by simp; omega
    rw [e2, atE_at, hl]
    simp [List.getLast?_eq_getElem?]
theorem LOk.last {s : LSt} (h : LOk s) : (lastE s).i = s.snap.i + (s.list.length : Int) := by
  rw [lastE_eq]
  cases hl : s.list.getLast? with
  | none => simp [List.getLast?_eq_none_iff.1 hl]
  | some x =>
    rw [List.getLast?_eq_getElem?] at hl
    have := h.idx _ x hl
    have h2 := (List.getElem?_eq_some_iff.1 hl).1
    simp
    omega
end Go.Proofs.YtclldpecbocclaaGreat

/- The files of a log on its disk, without memory. -/
namespace Go.Proofs.YtclldpecbocclaaGreat
set_option linter.unusedSimpArgs false
set_option linter.unusedVariables false

theorem bSL : bytesBefore [114, 46, 115, 110, 97, 112] [114, 46, 108, 111, 103] = false := by decide
theorem bTL : bytesBefore [114, 46, 116, 101, 114, 109] [114, 46, 108, 111, 103] = false := by decide
theorem bTS : bytesBefore [114, 46, 116, 101, 114, 109] [114, 46, 115, 110, 97, 112] = false := by decide
theorem bLS : bytesBefore [114, 46, 108, 111, 103] [114, 46, 115, 110, 97, 112] = true := by decide
theorem bLT : bytesBefore [114, 46, 108, 111, 103] [114, 46, 116, 101, 114, 109] = true := by decide
theorem bST : bytesBefore [114, 46, 115, 110, 97, 112] [114, 46, 116, 101, 114, 109] = true := by decide
theorem look_L (l s t : Option (List UInt8)) : alook (fsOf l s t) nL.data.toList = l.map fun b => ⟨nL.data.toList, b, b.length⟩ := by
  cases l <;> cases s <;> cases t <;> simp [fsOf, alook, nL, nS, nT]
theorem look_S (l s t : Option (List UInt8)) : alook (fsOf l s t) nS.data.toList = s.map fun b => ⟨nS.data.toList, b, b.length⟩ := by
  cases l <;> cases s <;> cases t <;> simp [fsOf, alook, nL, nS, nT]
theorem look_T (l s t : Option (List UInt8)) : alook (fsOf l s t) nT.data.toList = t.map fun b => ⟨nT.data.toList, b, b.length⟩ := by
  cases l <;> cases s <;> cases t <;> simp [fsOf, alook, nL, nS, nT]
theorem few (l s t : Option (List UInt8)) : (fsOf l s t).length < 256 := by
  cases l <;> cases s <;> cases t <;> simp [fsOf]
theorem total_fs (l s t : Option (List UInt8)) : totalA (fsOf l s t) = (l.getD []).length + ((s.getD []).length + (t.getD []).length) := by
  cases l <;> cases s <;> cases t <;> simp [fsOf, totalA] <;> omega
theorem name_L : nameB nL = true := by decide
theorem name_S : nameB nS = true := by decide
theorem name_T : nameB nT = true := by decide
theorem bytes_L (l s t : Option (List UInt8)) : abytes (fsOf l s t) nL.data.toList = l.getD [] := by
  unfold abytes; rw [look_L]; cases l <;> rfl
theorem bytes_S (l s t : Option (List UInt8)) : abytes (fsOf l s t) nS.data.toList = s.getD [] := by
  unfold abytes; rw [look_S]; cases s <;> rfl
theorem bytes_T (l s t : Option (List UInt8)) : abytes (fsOf l s t) nT.data.toList = t.getD [] := by
  unfold abytes; rw [look_T]; cases t <;> rfl
theorem safe_L (l s t : Option (List UInt8)) : asafe (fsOf l s t) nL.data.toList = (l.getD []).length := by
  unfold asafe; rw [look_L]; cases l <;> rfl
theorem adm_L (l s t : Option (List UInt8)) : admE (fsOf l s t) nL = 0 := by
  unfold admE; rw [if_pos name_L, if_pos (.inr (few l s t))]
theorem adm_S (l s t : Option (List UInt8)) : admE (fsOf l s t) nS = 0 := by
  unfold admE; rw [if_pos name_S, if_pos (.inr (few l s t))]
theorem adm_T (l s t : Option (List UInt8)) : admE (fsOf l s t) nT = 0 := by
  unfold admE; rw [if_pos name_T, if_pos (.inr (few l s t))]
theorem put_L (l s t : Option (List UInt8)) (b : List UInt8) (n : Nat) : aput (fsOf l s t) ⟨nL.data.toList, b, n⟩ = ⟨nL.data.toList, b, n⟩ :: fsOf none s t := by
  cases l <;> cases s <;> cases t <;> simp [fsOf, aput, adel, ains, nL, nS, nT, bSL, bTL, bTS, bLS, bLT, bST]
theorem put_S (l s t : Option (List UInt8)) (b : List UInt8) : aput (fsOf l s t) ⟨nS.data.toList, b, b.length⟩ = fsOf l (some b) t := by
  cases l <;> cases s <;> cases t <;> simp [fsOf, aput, adel, ains, nL, nS, nT, bSL, bTL, bTS, bLS, bLT, bST]
theorem put_T (l s t : Option (List UInt8)) (b : List UInt8) : aput (fsOf l s t) ⟨nT.data.toList, b, b.length⟩ = fsOf l s (some b) := by
  cases l <;> cases s <;> cases t <;> simp [fsOf, aput, adel, ains, nL, nS, nT, bSL, bTL, bTS, bLS, bLT, bST]

theorem some_fs (l s t : Option (List UInt8)) (b : List UInt8) : (⟨nL.data.toList, b, b.length⟩ : AF) :: fsOf none s t = fsOf (some b) s t := by
  cases s <;> cases t <;> simp [fsOf]
theorem rep_S (size : Nat) (l s t : Option (List UInt8)) (b : List UInt8) : repE size (fsOf l s t) nS (strOf b) = (if b.length ≤ size - totalA (fsOf l s t) + (s.getD []).length then 0 else 7) ∧ (repE size (fsOf l s t) nS (strOf b) = 0 → repL size (fsOf l s t) nS (strOf b) = fsOf l (some b) t) ∧ (repE size (fsOf l s t) nS (strOf b) ≠ 0 → repL size (fsOf l s t) nS (strOf b) = fsOf l s t) := by
  unfold repE repL
  rw [if_pos (adm_S l s t), bytes_S, strOf_size, strOf_data]
  by_cases h : b.length ≤ size - totalA (fsOf l s t) + (s.getD []).length
  · rw [if_pos h, if_pos ⟨adm_S l s t, h⟩, put_S]
    exact ⟨rfl, fun _ => rfl, fun h => absurd rfl h⟩
  · rw [if_neg h, if_neg (fun x => h x.2)]
    exact ⟨rfl, (by intro x; cases x), fun _ => rfl⟩
theorem rep_T (size : Nat) (l s t : Option (List UInt8)) (b : List UInt8) : repE size (fsOf l s t) nT (strOf b) = (if b.length ≤ size - totalA (fsOf l s t) + (t.getD []).length then 0 else 7) ∧ (repE size (fsOf l s t) nT (strOf b) = 0 → repL size (fsOf l s t) nT (strOf b) = fsOf l s (some b)) ∧ (repE size (fsOf l s t) nT (strOf b) ≠ 0 → repL size (fsOf l s t) nT (strOf b) = fsOf l s t) := by
  unfold repE repL
  rw [if_pos (adm_T l s t), bytes_T, strOf_size, strOf_data]
  by_cases h : b.length ≤ size - totalA (fsOf l s t) + (t.getD []).length
  · rw [if_pos h, if_pos ⟨adm_T l s t, h⟩, put_T]
    exact ⟨rfl, fun _ => rfl, fun h => absurd rfl h⟩
  · rw [if_neg h, if_neg (fun x => h x.2)]
    exact ⟨rfl, (by intro x; cases x), fun _ => rfl⟩
theorem rep_L (size : Nat) (l s t : Option (List UInt8)) (b : List UInt8) (hb : b.length ≤ (l.getD []).length) : repE size (fsOf l s t) nL (strOf b) = 0 ∧ repL size (fsOf l s t) nL (strOf b) = fsOf (some b) s t := by
  unfold repE repL
  rw [if_pos (adm_L l s t), bytes_L, strOf_size, strOf_data, if_pos (by omega), if_pos ⟨adm_L l s t, by omega⟩, put_L, some_fs]
  · exact ⟨rfl, rfl⟩
  · exact none
/-- The file of entries: cut, then more behind, then safe. -/
theorem cut_app_syn (size : Nat) (l s t : Option (List UInt8)) (n : Nat) (b : List UInt8) (hn : n ≤ (l.getD []).length) (hroom : b.length + totalA (fsOf l s t) ≤ size + ((l.getD []).length - n)) :
    (l.isSome = true → cutE (fsOf l s t) nL (n : Int) = 0 ∧ cutL (fsOf l s t) nL (n : Int) = fsOf (some ((l.getD []).take n)) s t) ∧
    (n = (l.getD []).length → appE size (fsOf l s t) nL (strOf b) = 0 ∧ synE (appL size (fsOf l s t) nL (strOf b)) nL = 0 ∧ synL (appL size (fsOf l s t) nL (strOf b)) nL = fsOf (some ((l.getD []) ++ b)) s t) := by
  constructor
  · intro hl
    obtain ⟨c, rfl⟩ := Option.isSome_iff_exists.1 hl
    simp only [Option.getD_some] at *
    have h1 : (alook (fsOf (some c) s t) nL.data.toList).isSome = true := by rw [look_L]; rfl
    unfold cutE cutL
    rw [if_pos h1, bytes_L, safe_L]
    simp only [Option.getD_some]
    rw [if_pos ⟨by omega, by omega⟩, if_pos ⟨h1, by omega, by omega⟩]
    refine ⟨rfl, ?_⟩
    rw [Int.toNat_natCast, put_L, ← some_fs none]
    have e : min c.length n = (c.take n).length := by rw [List.length_take]; omega
    rw [e]
  · intro he
    unfold appE appL
    rw [if_pos (adm_L l s t), if_pos (adm_L l s t), strOf_size, strOf_data, bytes_L, safe_L]
    have hle : b.length ≤ size - totalA (fsOf l s t) := by omega
    rw [if_pos hle, Nat.min_eq_left hle, List.take_length, put_L]
    have hlook : ∀ bb nn, alook ((⟨nL.data.toList, bb, nn⟩ : AF) :: fsOf none s t) nL.data.toList = some ⟨nL.data.toList, bb, nn⟩ := fun bb nn => by simp [alook]
    unfold synE synL abytes
    rw [hlook]
    simp only [Option.isSome_some, if_true]
    refine ⟨trivial, trivial, ?_⟩
    cases s <;> cases t <;> simp [fsOf, aput, adel, ains, nL, nS, nT, bSL, bTL, bTS, bLS, bLT, bST]
end Go.Proofs.YtclldpecbocclaaGreat

