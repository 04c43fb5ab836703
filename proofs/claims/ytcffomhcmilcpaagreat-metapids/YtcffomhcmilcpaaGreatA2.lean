/- What asks little, and the sorted ids of brokers. -/
import Derived.Test.YtcffomhcmilcpaaGreatA1
import Derived.Test.YtcffomhcmilcpaaGreatIter
import Derived.Lib.SlKeysI
import Derived.Lib.SliceRun
namespace Go.Proofs.YtcffomhcmilcpaaGreat
open Go.RowKit Go.Maps Go.Sort
set_option maxRecDepth 100000
set_option linter.unusedSimpArgs false
set_option linter.unusedVariables false

set_option maxHeartbeats 400000 in
theorem upTo_any (n m : Int) (w : World) (hn : I64 n) (hm : I64 m) : Calls Tryz.prog 67 #[.int .i64 n, .int .i64 m] w fun e w' => e = .returned (.bool (upB n m)) ∧ w = w' := by
  unfold I64 at hn hm
  go_enter Tryz.func67, Tryz.ntmps67
  go_wp2
  all_goals
    go_ret
    refine ⟨ret_bool ?_, rfl⟩
    rw [Bool.eq_iff_iff]
    simp [upB]
    try omega
set_option maxHeartbeats 400000 in
theorem broker_any (n : Int) (w : World) (hn : I64 n) : Calls Tryz.prog 91 #[.int .i64 n] w fun e w' => e = .returned (.bool (upB n 7)) ∧ w = w' := by
  go_enter Tryz.func91, Tryz.ntmps91
  go_wp2_with fail
  refine (upTo_any _ _ _ hn (by unfold I64; omega)).mono ?_
  rintro e w1 ⟨rfl, rfl⟩
  go_wp2_with fail
  go_ret
  exact ⟨rfl, rfl⟩
theorem imOk_new : ImOk Im.new := ⟨by simp [Im.new], by simp [Im.new], by simp [Im.new], by simp [Im.new], by simp [Im.new, sumT], by simp [Im.new], by simp [Im.new], by simp [Im.new], by simp [Im.new], by simp [Im.new]⟩
set_option maxHeartbeats 400000 in
theorem new_any (w : World) : Calls Tryz.prog 10 #[] w fun e w' => e = .returned (.pointer (some ⟨w.heap.size + 1, 0, none⟩)) ∧ Img w' (fun k => k = w.heap.size ∨ k = w.heap.size + 1) (w.heap.size + 1) Im.new ∧ Below w.heap.size w w' := by
  have hmm := @run_makeMap Tryz.prog
  go_enter Tryz.func10, Tryz.ntmps10
  go_wp2_with fail
  go_ret
  have hz : (w.alloc (.map #[] 0)).heap.size = w.heap.size + 1 := by simp
  have hz2 : ((w.alloc (.map #[] 0)).alloc (.cells #[.int .i64 0, .map (some w.heap.size), .slice none 0 0, .slice none 0 0, .slice none 0 0] 70)).heap.size = w.heap.size + 2 := by simp
  refine ⟨rfl, ⟨fun _ => False, w.heap.size, .slice none 0 0, .slice none 0 0, .slice none 0 0, [], ⟨?_, ?_, ⟨rfl, .inl ⟨rfl, rfl⟩⟩, ⟨rfl, .inl ⟨rfl, rfl⟩⟩, ⟨rfl, .inl ⟨rfl, rfl⟩⟩, (fun x hx => by cases hx), rfl, (fun k hk => hk.elim), imOk_new⟩, fun k hk => ?_, fun k hk => hk.elim, fun k hk => ?_⟩, ((Below.refl _ _).alloc (Nat.le_refl _) _).alloc (by rw [hz]; omega) _⟩
  · have := heap_alloc_new (w.alloc (.map #[] 0)) (.cells #[.int .i64 0, .map (some w.heap.size), .slice none 0 0, .slice none 0 0, .slice none 0 0] 70)
    rw [hz] at this
    exact this
  · exact (World.ownsMap_made w Tryz.prog 3 Rh).alloc _
  · rcases hk with rfl | rfl | hk | hk | hk
    · exact .inr rfl
    · exact .inl rfl
    · cases hk
    · cases hk
    · cases hk
  · rw [hz2]; rcases hk with rfl | rfl <;> omega
set_option maxHeartbeats 400000 in
theorem rec_any (a b c d : Int) (w : World) : Calls Tryz.prog 19 #[.int .i64 a, .int .i64 b, .int .i64 c, .int .i64 d] w fun e w' => e = .returned (.agg #[.int .i64 a, .int .i64 b, .int .i64 c, .int .i64 d, .int .i64 0, .string ⟨#[116]⟩, .string ⟨#[]⟩, .slice none 0 0]) ∧ Below w.heap.size w w' := by
  go_enter Tryz.func19, Tryz.ntmps19
  go_wp2_with fail
  refine bodyPost_ret (v := .agg #[.int .i64 a, .int .i64 b, .int .i64 c, .int .i64 d, .int .i64 0, .string ⟨#[116]⟩, .string ⟨#[]⟩, .slice none 0 0]) (by simp [results, Tryz.results19, go_sem]) rfl ⟨rfl, ?_⟩
  repeat (first | exact Below.refl _ _ | refine Below.setCell ?_ (by simp) _ | refine Below.alloc ?_ (by simp) _)
def kindF (k : Int) : Nat := if k = 1 then 68 else if k = 2 then 69 else if k = 3 then 70 else if k = 4 then 71 else if k = 5 ∨ k = 6 ∨ k = 7 ∨ k = 10 ∨ k = 9 then 72 else if k = 8 then 73 else 74
set_option maxHeartbeats 1600000 in
theorem kind_any (k : Int) (w : World) (hk : I64 k) : Calls Tryz.prog 32 #[.int .i64 k] w fun e w' => e = .returned (.func (.func (kindF k)) #[] #[]) ∧ w = w' := by
  unfold I64 at hk
  by_cases h1 : k = 1
  · subst h1
    show Calls Tryz.prog 32 #[.int .i64 1] w fun e w' => e = .returned (.func (.func 68) #[] #[]) ∧ w = w'
    go_enter Tryz.func32, Tryz.ntmps32
    go_wp2_with fail
    go_ret
    exact ⟨rfl, rfl⟩
  by_cases h2 : k = 2
  · subst h2
    show Calls Tryz.prog 32 #[.int .i64 2] w fun e w' => e = .returned (.func (.func 69) #[] #[]) ∧ w = w'
    go_enter Tryz.func32, Tryz.ntmps32
    go_wp2_with fail
    go_ret
    exact ⟨rfl, rfl⟩
  by_cases h3 : k = 3
  · subst h3
    show Calls Tryz.prog 32 #[.int .i64 3] w fun e w' => e = .returned (.func (.func 70) #[] #[]) ∧ w = w'
    go_enter Tryz.func32, Tryz.ntmps32
    go_wp2_with fail
    go_ret
    exact ⟨rfl, rfl⟩
  by_cases h4 : k = 4
  · subst h4
    show Calls Tryz.prog 32 #[.int .i64 4] w fun e w' => e = .returned (.func (.func 71) #[] #[]) ∧ w = w'
    go_enter Tryz.func32, Tryz.ntmps32
    go_wp2_with fail
    go_ret
    exact ⟨rfl, rfl⟩
  by_cases h5 : k = 5
  · subst h5
    show Calls Tryz.prog 32 #[.int .i64 5] w fun e w' => e = .returned (.func (.func 72) #[] #[]) ∧ w = w'
    go_enter Tryz.func32, Tryz.ntmps32
    go_wp2_with fail
    go_ret
    exact ⟨rfl, rfl⟩
  by_cases h6 : k = 6
  · subst h6
    show Calls Tryz.prog 32 #[.int .i64 6] w fun e w' => e = .returned (.func (.func 72) #[] #[]) ∧ w = w'
    go_enter Tryz.func32, Tryz.ntmps32
    go_wp2_with fail
    go_ret
    exact ⟨rfl, rfl⟩
  by_cases h7 : k = 7
  · subst h7
    show Calls Tryz.prog 32 #[.int .i64 7] w fun e w' => e = .returned (.func (.func 72) #[] #[]) ∧ w = w'
    go_enter Tryz.func32, Tryz.ntmps32
    go_wp2_with fail
    go_ret
    exact ⟨rfl, rfl⟩
  by_cases h10 : k = 10
  · subst h10
    show Calls Tryz.prog 32 #[.int .i64 10] w fun e w' => e = .returned (.func (.func 72) #[] #[]) ∧ w = w'
    go_enter Tryz.func32, Tryz.ntmps32
    go_wp2_with fail
    go_ret
    exact ⟨rfl, rfl⟩
  by_cases h9 : k = 9
  · subst h9
    show Calls Tryz.prog 32 #[.int .i64 9] w fun e w' => e = .returned (.func (.func 72) #[] #[]) ∧ w = w'
    go_enter Tryz.func32, Tryz.ntmps32
    go_wp2_with fail
    go_ret
    exact ⟨rfl, rfl⟩
  by_cases h8 : k = 8
  · subst h8
    show Calls Tryz.prog 32 #[.int .i64 8] w fun e w' => e = .returned (.func (.func 73) #[] #[]) ∧ w = w'
    go_enter Tryz.func32, Tryz.ntmps32
    go_wp2_with fail
    go_ret
    exact ⟨rfl, rfl⟩
  have HF : kindF k = 74 := by simp [kindF, h1, h2, h3, h4, h5, h6, h7, h10, h9, h8]
  rw [HF]
  clear HF
  go_enter Tryz.func32, Tryz.ntmps32
  go_wp2_with fail
  go_ret
  exact ⟨rfl, rfl⟩
set_option maxHeartbeats 400000 in
theorem applied_any {w : World} {Z q I} (h : Img w Z q I) : Calls Tryz.prog 27 #[.pointer (some ⟨q, 0, none⟩)] w fun e w' => e = .returned (.int .i64 I.applied) ∧ w = w' := by
  obtain ⟨L, b, vt, vp, ve, ps, h1, _⟩ := h
  have c0 := h1.c0
  clear h1
  go_enter Tryz.func27, Tryz.ntmps27
  go_wp2_with fail
  go_ret
  exact ⟨rfl, rfl⟩

theorem row_base {w : World} {B B' e s : Nat} {v : Value} {n : Nat} {xs : List Value} (h : w.ownsRow B e s v n xs) (hB : B' ≤ B) : w.ownsRow B' e s v n xs := by
  obtain ⟨h1, h2 | ⟨g, cap, cur, rfl, hb, hg, r⟩⟩ := h
  · exact ⟨h1, .inl h2⟩
  · exact ⟨h1, .inr ⟨g, cap, cur, rfl, Nat.le_trans hB hb, hg, r⟩⟩
theorem intKeys_dmap (fs : BM) : intKeys (dmap fs) = fs.map (·.1) := by
  simp [intKeys, dmap, Function.comp_def, Go.intOf]
theorem sorted_keys {fs : BM} (hr : fs.Pairwise (fun p q => p.1 < q.1)) {ss : List Int} (hp : ss.Perm (fs.map (·.1))) : ss.mergeSort (fun x y => decide (x ≤ y)) = fs.map (·.1) := by
  have hs : (fs.map (·.1)).Pairwise (fun x y => decide (x ≤ y) = true) := by
    rw [List.pairwise_map]
    exact hr.imp (fun h => by simp; omega)
  have h1 : (ss.mergeSort (fun x y => decide (x ≤ y))).Pairwise (fun x y => decide (x ≤ y) = true) := List.pairwise_mergeSort (fun a b c h1 h2 => by simp at h1 h2 ⊢; omega) (fun a b => by simp; omega) ss
  have h2 : (ss.mergeSort (fun x y => decide (x ≤ y))).Perm (fs.map (·.1)) := (List.mergeSort_perm ss _).trans hp
  exact h2.eq_of_pairwise (fun a b _ _ h3 h4 => by simp at h3 h4; omega) h1 hs
section
variable {w : World} {L : Nat → Prop} {q b : Nat} {vt vp ve : Value} {ps : List (Value × Pt)} {I : Im}
theorem keys_any (mb : Option Nat) (w : World) : Calls Tryz.prog 110 #[.map mb] w fun e w' => e = .returned (.func (.func 144) #[] #[.pointer (some ⟨w.heap.size, 0, none⟩)]) ∧ w' = w.alloc (.cells #[.map mb] 67) := callsIn_wide.1 (Tryz.maps_Keys_50 mb w)
theorem sorted_any (h : ImC w L q b vt vp ve ps I) : Calls Tryz.prog 109 #[.func (.func 144) #[] #[.pointer (some ⟨w.heap.size, 0, none⟩)]] (w.alloc (.cells #[.map (some b)] 67)) fun e w' => ∃ v, e = .returned v ∧ w'.ownsRow w.heap.size 3 1 v I.brs.length (intsV (I.brs.map (·.1))) ∧ Below w.heap.size w w' := by
  have hl := keys_few h.ok.keys (fun p hp => (h.ok.brs p hp).1)
  refine (callsIn_wide.1 (Tryz.slices_Sorted_keys_49_50 b I.brs.length (dmap I.brs) Rh w h.bmap (by rw [dmap_size]; unfold maxLen; omega) (by rw [dmap_size]; omega))).mono ?_
  rintro e w' ⟨v, ss, rfl, hS, hrow, hnil, hb⟩
  rw [intKeys_dmap] at hS
  have hl2 : ss.length = I.brs.length := by simpa using hS.length_eq
  rw [sorted_keys h.ok.keys hS, hl2] at hrow
  refine ⟨v, rfl, ?_, ((Below.refl _ w).alloc (Nat.le_refl _) _).trans (hb.mono (by simp))⟩
  exact row_base hrow (by simp)
end
theorem il_of_row {w : World} {B : Nat} {v : Value} {l : List Int} (h : w.ownsRow B 3 1 v l.length (intsV l)) (ok : ∀ x ∈ l, I64 x) (hl : l.length ≤ 17592186044415) : IL w v l ∧ In (fun k => B ≤ k) v l := by
  obtain ⟨h1, ⟨rfl, h0⟩ | ⟨g, cap, cur, rfl, hB, hg, hn, hc, hs, ht⟩⟩ := h
  · have : l = [] := List.length_eq_zero_iff.1 h0
    subst this
    exact ⟨IL.nil _, In.nil _ _⟩
  · refine ⟨⟨⟨some ⟨g, 0, none⟩, cap, rfl, hn, hc, (fun h => by cases h), fun hne => ⟨g, 0, rfl, (Array.getElem?_eq_some_iff.1 hg).1, fun i hi => ?_⟩⟩, ok, hl⟩, fun _ b off n c e => by cases e; exact hB⟩
    refine cell_blk hg _ _ ?_
    have h2 : (intsV l)[i]? = some (.int .i64 l[i]) := by simp [intsV, hi]
    rw [← ht, List.getElem?_take] at h2
    split at h2
    · simpa using h2
    · cases h2
set_option maxHeartbeats 800000 in
theorem ids_any {w : World} {L : Nat → Prop} {q b : Nat} {vt vp ve : Value} {ps : List (Value × Pt)} {I : Im} (h : ImC w L q b vt vp ve ps I) : Calls Tryz.prog 63 #[.pointer (some ⟨q, 0, none⟩)] w fun e w' => ∃ v, e = .returned v ∧ IL w' v (I.brs.map (·.1)) ∧ Below w.heap.size w w' := by
  have HK := hid (keys_any (some b) w)
  have HS := hid (sorted_any h)
  have c1 := h.c1
  have HO := hid h.ok
  clear h
  go_enter Tryz.func63, Tryz.ntmps63
  go_wp2_with (first | (go_at_call 110; refine HK.out.mono ?_; rintro e w1 ⟨rfl, rfl⟩) | (go_at_call 109; refine HS.out.mono ?_; rintro e w2 ⟨v, rfl, hrow, hb⟩))
  go_ret
  have hl := keys_few HO.out.keys (fun p hp => (HO.out.brs p hp).1)
  refine ⟨v, rfl, (il_of_row (l := I.brs.map (·.1)) (by simpa using hrow) (fun x hx => ?_) (by simp; omega)).1, hb⟩
  obtain ⟨p, hp, rfl⟩ := List.mem_map.1 hx
  have := (HO.out.brs p hp).1
  unfold I64; omega
end Go.Proofs.YtcffomhcmilcpaaGreat
