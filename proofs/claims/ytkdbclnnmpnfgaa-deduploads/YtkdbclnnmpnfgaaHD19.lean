/- Keep: a table as bytes. -/
import Derived.Test.YtkdbclnnmpnfgaaH13
import Derived.Test.YtkdbclnnmpnfgaaHIter
import Derived.Lib.SlKeysI
namespace Go.Proofs.Ytkdbclnnmpnfgaa
open Go.RowKit Go.Maps Go.Sort
set_option maxRecDepth 100000
set_option linter.unusedSimpArgs false
set_option linter.unusedVariables false

def noteB (x : Nt) : List UInt8 := intsL [x.ep, x.seq, x.n, x.off]
def notesB : List Nt → List UInt8
  | [] => []
  | x :: r => noteB x ++ notesB r
def prodB (p : Int × List Nt) : List UInt8 := intsL [p.1, (p.2.length : Int)] ++ notesB p.2
def tabB : Tb → List UInt8
  | [] => []
  | p :: r => prodB p ++ tabB r
def keepB (T : Tb) : List UInt8 := sealL (intL (T.length : Int) ++ tabB T)
theorem notesB_append : ∀ l m : List Nt, notesB (l ++ m) = notesB l ++ notesB m
  | [], m => rfl
  | x :: r, m => by simp [notesB, notesB_append r m]
theorem tabB_append : ∀ l m : Tb, tabB (l ++ m) = tabB l ++ tabB m
  | [], m => rfl
  | x :: r, m => by simp [tabB, tabB_append r m]
theorem notesB_take (l : List Nt) (k : Nat) (h : k < l.length) : notesB (l.take (k + 1)) = notesB (l.take k) ++ noteB l[k] := by
  rw [List.take_succ_eq_append_getElem h, notesB_append]; simp [notesB]
theorem tabB_take (l : Tb) (k : Nat) (h : k < l.length) : tabB (l.take (k + 1)) = tabB (l.take k) ++ prodB l[k] := by
  rw [List.take_succ_eq_append_getElem h, tabB_append]; simp [tabB]
theorem notesB_length : ∀ l : List Nt, (notesB l).length ≤ l.length * 40
  | [] => by simp [notesB]
  | x :: r => by
    have h1 := intsL_length [x.ep, x.seq, x.n, x.off]
    have h3 := notesB_length r
    simp only [notesB, noteB, List.length_append, List.length_cons, List.length_nil] at h1 ⊢
    omega
theorem tabB_length : ∀ T : Tb, (tabB T).length ≤ T.length * 20 + cntT T * 40
  | [] => by simp [tabB]
  | p :: r => by
    have h1 := intsL_length [p.1, (p.2.length : Int)]
    have h2 := notesB_length p.2
    have h3 := tabB_length r
    simp only [tabB, prodB, cntT, List.length_append, List.length_cons, List.length_nil] at h1 ⊢
    omega
theorem cntT_take : ∀ (T : Tb) (k : Nat), cntT (T.take k) ≤ cntT T
  | [], k => by simp
  | p :: r, 0 => by simp [cntT]
  | p :: r, k + 1 => by have := cntT_take r k; simp only [List.take_succ_cons, cntT]; omega

theorem ints_four {w : World} {B : Nat} {v : Value} {l : List UInt8} (h : Row w B v l) (a b c d : Int) : IntsIn (w.alloc (.cells #[.int .i64 a, .int .i64 b, .int .i64 c, .int .i64 d] 3)) v (some ⟨w.heap.size, 0, none⟩) [a, b, c, d] :=
  .inr ⟨w.heap.size, 0, rfl, by simp, h.fresh, fun i hi => by
    have h0 : i = 0 ∨ i = 1 ∨ i = 2 ∨ i = 3 := by simp at hi; omega
    rcases h0 with rfl | rfl | rfl | rfl
    · exact cell_new rfl rfl
    · exact cell_new rfl rfl
    · exact cell_new rfl rfl
    · exact cell_new rfl rfl⟩
theorem four48 {w : World} {B : Nat} {v : Value} {l : List UInt8} (h : Row w B v l) (hB : B ≤ w.heap.size) (a b c d : Int) (ha : I64 a) (hb : I64 b) (hc : I64 c) (hd : I64 d) (hl : l.length ≤ 100000000000) :
    Calls Try.prog 48 #[v, .slice (some ⟨w.heap.size, 0, none⟩) 4 4] (w.alloc (.cells #[.int .i64 a, .int .i64 b, .int .i64 c, .int .i64 d] 3)) fun e w' => ∃ v', e = .returned v' ∧ Row w' B v' (l ++ intsL [a, b, c, d]) ∧ Below B w w' ∧ Grow w w' v v' := by
  have H := appInts_any (h.alloc (.cells #[.int .i64 a, .int .i64 b, .int .i64 c, .int .i64 d] 3)) (by simp; omega) (some ⟨w.heap.size, 0, none⟩) 4 [a, b, c, d] (ints_four h a b c d) (fun k hk => by simp at hk; rcases hk with rfl | rfl | rfl | rfl <;> assumption) (by simp; omega)
  refine H.mono ?_
  rintro e w1 ⟨v', rfl, h1, h2, h3⟩
  exact ⟨v', rfl, h1, ((Below.refl _ _).alloc hB _).trans h2, ((Grow.refl w v).alloc _).trans h3⟩
set_option maxHeartbeats 400000 in
theorem pseal2_any (t : List UInt8) (w : World) (h : t.length ≤ 100000000) : Calls Try.prog 51 #[.string (strOf t)] w fun e w' => e = .returned (.string (strOf (sealL t))) ∧ Below w.heap.size w w' := by
  have HC := hid (crc_any (strOf t) w (by rw [strOf_size]; unfold maxLen; omega))
  rw [strOf_data] at HC
  have HF := hid (pfour_any (crcL t) w (crcL_lt t))
  have hsz := strOf_size t
  have hsz4 := strOf_size (fourL (crcL t))
  have h4 : (fourL (crcL t)).length = 4 := rfl
  have HA := hid (strOf_append (fourL (crcL t)) t)
  go_enter Try.func51, Try.ntmps51
  go_wp2_with (first | (go_at_call 66; refine HC.out.mono ?_; rintro e w1 ⟨rfl, rfl⟩) | (go_at_call 74; refine HF.out.mono ?_; rintro e w2 ⟨rfl, hb2⟩))
  go_ret
  exact ⟨by rw [HA.out]; rfl, hb2⟩

theorem intKeys_dmap (fs : FM) : intKeys (dmap fs) = fs.map (·.1) := by
  simp [intKeys, dmap, Function.comp_def, Go.intOf]
theorem sorted_keys {fs : FM} (hr : (abs fs).Pairwise (fun p q => p.1 < q.1)) {ss : List Int} (hp : ss.Perm (fs.map (·.1))) : ss.mergeSort (fun x y => decide (x ≤ y)) = fs.map (·.1) := by
  have hs : (fs.map (·.1)).Pairwise (fun x y => decide (x ≤ y) = true) := by
    unfold abs at hr
    rw [List.pairwise_map] at hr ⊢
    exact hr.imp (fun h => by simp; omega)
  have h1 : (ss.mergeSort (fun x y => decide (x ≤ y))).Pairwise (fun x y => decide (x ≤ y) = true) := List.pairwise_mergeSort (fun a b c h1 h2 => by simp at h1 h2 ⊢; omega) (fun a b => by simp; omega) ss
  have h2 : (ss.mergeSort (fun x y => decide (x ≤ y))).Perm (fs.map (·.1)) := (List.mergeSort_perm ss _).trans hp
  exact h2.eq_of_pairwise (fun a b _ _ h3 h4 => by simp at h3 h4; omega) h1 hs
theorem keys_any {w : World} {S q b fs} (h : TabM w S q b fs) : Calls Try.prog 50 #[.map (some b)] w fun e w' => e = .returned (.func (.func 73) #[] #[.pointer (some ⟨w.heap.size, 0, none⟩)]) ∧ w' = w.alloc (.cells #[.map (some b)] 53) := callsIn_wide.1 (Try.maps_Keys_50 (some b) w)
theorem sorted_any {w : World} {S q b fs} (h : TabM w S q b fs) : Calls Try.prog 49 #[.func (.func 73) #[] #[.pointer (some ⟨w.heap.size, 0, none⟩)]] (w.alloc (.cells #[.map (some b)] 53)) fun e w' => ∃ v, e = .returned v ∧ w'.ownsRow w.heap.size 3 1 v fs.length ((fs.map (·.1)).map fun k => .int .i64 k) ∧ Below w.heap.size w w' := by
  have hl : fs.length ≤ 100000 := by have := h.ok.len; unfold abs at this; simpa using this
  refine (callsIn_wide.1 (Try.slices_Sorted_keys_49_50 b fs.length (dmap fs) Rh w h.files (by rw [dmap_size]; unfold maxLen; omega) (by rw [dmap_size]; omega))).mono ?_
  rintro e w' ⟨v, ss, rfl, hS, hrow, hnil, hb⟩
  rw [intKeys_dmap] at hS
  have hl2 : ss.length = fs.length := by simpa using hS.length_eq
  rw [sorted_keys h.ok.rise hS, hl2] at hrow
  refine ⟨v, rfl, ?_, ((Below.refl _ w).alloc (Nat.le_refl _) _).trans (hb.mono (by simp))⟩
  exact ownsRow_base_a hrow (by simp)
end Go.Proofs.Ytkdbclnnmpnfgaa

