/- What asks little, and the sorted ids of brokers. -/
import Derived.Test.YtcffomhcmilcpaaGreatK6
import Derived.Lib.SlKeysI
import Derived.Lib.SliceRun
import Derived.Test.YtcffomhcmilcpaaGreatK0
namespace Go.Proofs.YtcffomhcmilcpaaGreat
open Go.RowKit Go.Maps Go.Sort
set_option maxRecDepth 100000
set_option linter.unusedSimpArgs false
set_option linter.unusedVariables false

set_option maxHeartbeats 400000 in
theorem upTo_any (n m : Int) (w : World) (hn : I64 n) (hm : I64 m) : Calls Tryz.prog 67 #[.int .i64 n, .int .i64 m] w fun e w' => e = .returned (.bool (upB n m)) ∧ w = w' := by
  unfold I64 at hn hm
  go_enter Tryz.func67, Tryz.ntmps67
  go_wp2
  all_goals
    go_ret
    refine ⟨ret_bool ?_, rfl⟩
    rw [Bool.eq_iff_iff]
    simp [upB]
    try omega
set_option maxHeartbeats 400000 in
theorem broker_any (n : Int) (w : World) (hn : I64 n) : Calls Tryz.prog 91 #[.int .i64 n] w fun e w' => e = .returned (.bool (upB n 7)) ∧ w = w' := by
  go_enter Tryz.func91, Tryz.ntmps91
  go_wp2_with fail
  refine (upTo_any _ _ _ hn (by unfold I64; omega)).mono ?_
  rintro e w1 ⟨rfl, rfl⟩
  go_wp2_with fail
  go_ret
  exact ⟨rfl, rfl⟩
theorem imOk_new : ImOk Im.new := ⟨by simp [Im.new], by simp [Im.new], by simp [Im.new], by simp [Im.new], by simp [Im.new, sumT], by simp [Im.new], by simp [Im.new], by simp [Im.new], by simp [Im.new], by simp [Im.new]⟩
set_option maxHeartbeats 400000 in
theorem new_any (w : World) : Calls Tryz.prog 10 #[] w fun e w' => e = .returned (.pointer (some ⟨w.heap.size + 1, 0, none⟩)) ∧ Img w' (fun k => k = w.heap.size ∨ k = w.heap.size + 1) (w.heap.size + 1) Im.new ∧ Below w.heap.size w w' := by
  have hmm := @run_makeMap Tryz.prog
  go_enter Tryz.func10, Tryz.ntmps10
  go_wp2_with fail
  go_ret
  have hz : (w.alloc (.map #[] 0)).heap.size = w.heap.size + 1 := by simp
  have hz2 : ((w.alloc (.map #[] 0)).alloc (.cells #[.int .i64 0, .map (some w.heap.size), .slice none 0 0, .slice none 0 0, .slice none 0 0] 70)).heap.size = w.heap.size + 2 := by simp
  refine ⟨rfl, ⟨fun _ => False, w.heap.size, .slice none 0 0, .slice none 0 0, .slice none 0 0, [], ⟨?_, ?_, ⟨rfl, .inl ⟨rfl, rfl⟩⟩, ⟨rfl, .inl ⟨rfl, rfl⟩⟩, ⟨rfl, .inl ⟨rfl, rfl⟩⟩, (fun x hx => by cases hx), rfl, (fun k hk => hk.elim), imOk_new⟩, fun k hk => ?_, fun k hk => hk.elim, fun k hk => ?_⟩, ((Below.refl _ _).alloc (Nat.le_refl _) _).alloc (by rw [hz]; omega) _⟩
  · have := heap_alloc_new (w.alloc (.map #[] 0)) (.cells #[.int .i64 0, .map (some w.heap.size), .slice none 0 0, .slice none 0 0, .slice none 0 0] 70)
    rw [hz] at this
    exact this
  · exact (World.ownsMap_made w Tryz.prog 3 Rh).alloc _
  · rcases hk with rfl | rfl | hk | hk | hk
    · exact .inr rfl
    · exact .inl rfl
    · cases hk
    · cases hk
    · cases hk
  · rw [hz2]; rcases hk with rfl | rfl <;> omega
set_option maxHeartbeats 400000 in
theorem rec_any (a b c d : Int) (w : World) : Calls Tryz.prog 19 #[.int .i64 a, .int .i64 b, .int .i64 c, .int .i64 d] w fun e w' => e = .returned (.agg #[.int .i64 a, .int .i64 b, .int .i64 c, .int .i64 d, .int .i64 0, .string ⟨#[116]⟩, .string ⟨#[]⟩, .slice none 0 0]) ∧ Below w.heap.size w w' := by
  go_enter Tryz.func19, Tryz.ntmps19
  go_wp2_with fail
  refine bodyPost_ret (v := .agg #[.int .i64 a, .int .i64 b, .int .i64 c, .int .i64 d, .int .i64 0, .string ⟨#[116]⟩, .string ⟨#[]⟩, .slice none 0 0]) (by simp [results, Tryz.results19, go_sem]) rfl ⟨rfl, ?_⟩
  repeat (first | exact Below.refl _ _ | refine Below.setCell ?_ (by simp) _ | refine Below.alloc ?_ (by simp) _)
def kindF (k : Int) : Nat := if k = 1 then 68 else if k = 2 then 69 else if k = 3 then 70 else if k = 4 then 71 else if k = 5 ∨ k = 6 ∨ k = 7 ∨ k = 10 ∨ k = 9 then 72 else if k = 8 then 73 else 74
set_option maxHeartbeats 1600000 in
theorem kind_any (k : Int) (w : World) (hk : I64 k) : Calls Tryz.prog 32 #[.int .i64 k] w fun e w' => e = .returned (.func (.func (kindF k)) #[] #[]) ∧ w = w' := by
  unfold I64 at hk
  by_cases h1 : k = 1
  · subst h1
    show Calls Tryz.prog 32 #[.int .i64 1] w fun e w' => e = .returned (.func (.func 68) #[] #[]) ∧ w = w'
    go_enter Tryz.func32, Tryz.ntmps32
    go_wp2_with fail
    go_ret
    exact ⟨rfl, rfl⟩
  by_cases h2 : k = 2
  · subst h2
    show Calls Tryz.prog 32 #[.int .i64 2] w fun e w' => e = .returned (.func (.func 69) #[] #[]) ∧ w = w'
    go_enter Tryz.func32, Tryz.ntmps32
    go_wp2_with fail
    go_ret
    exact ⟨rfl, rfl⟩
  by_cases h3 : k = 3
  · subst h3
    show Calls Tryz.prog 32 #[.int .i64 3] w fun e w' => e = .returned (.func (.func 70) #[] #[]) ∧ w = w'
    go_enter Tryz.func32, Tryz.ntmps32
    go_wp2_with fail
    go_ret
    exact ⟨rfl, rfl⟩
  by_cases h4 : k = 4
  · subst h4
    show Calls Tryz.prog 32 #[.int .i64 4] w fun e w' => e = .returned (.func (.func 71) #[] #[]) ∧ w = w'
    go_enter Tryz.func32, Tryz.ntmps32
    go_wp2_with fail
    go_ret
    exact ⟨rfl, rfl⟩
  by_cases h5 : k = 5
  · subst h5
    show Calls Tryz.prog 32 #[.int .i64 5] w fun e w' => e = .returned (.func (.func 72) #[] #[]) ∧ w = w'
    go_enter Tryz.func32, Tryz.ntmps32
    go_wp2_with fail
    go_ret
    exact ⟨rfl, rfl⟩
  by_cases h6 : k = 6
  · subst h6
    show Calls Tryz.prog 32 #[.int .i64 6] w fun e w' => e = .returned (.func (.func 72) #[] #[]) ∧ w = w'
    go_enter Tryz.func32, Tryz.ntmps32
    go_wp2_with fail
    go_ret
    exact ⟨rfl, rfl⟩
  by_cases h7 : k = 7
  · subst h7
    show Calls Tryz.prog 32 #[.int .i64 7] w fun e w' => e = .returned (.func (.func 72) #[] #[]) ∧ w = w'
    go_enter Tryz.func32, Tryz.ntmps32
    go_wp2_with fail
    go_ret
    exact ⟨rfl, rfl⟩
  by_cases h10 : k = 10
  · subst h10
    show Calls Tryz.prog 32 #[.int .i64 10] w fun e w' => e = .returned (.func (.func 72) #[] #[]) ∧ w = w'
    go_enter Tryz.func32, Tryz.ntmps32
    go_wp2_with fail
    go_ret
    exact ⟨rfl, rfl⟩
  by_cases h9 : k = 9
  · subst h9
    show Calls Tryz.prog 32 #[.int .i64 9] w fun e w' => e = .returned (.func (.func 72) #[] #[]) ∧ w = w'
    go_enter Tryz.func32, Tryz.ntmps32
    go_wp2_with fail
    go_ret
    exact ⟨rfl, rfl⟩
  by_cases h8 : k = 8
  · subst h8
    show Calls Tryz.prog 32 #[.int .i64 8] w fun e w' => e = .returned (.func (.func 73) #[] #[]) ∧ w = w'
    go_enter Tryz.func32, Tryz.ntmps32
    go_wp2_with fail
    go_ret
    exact ⟨rfl, rfl⟩
  have HF : kindF k = 74 := by simp [kindF, h1, h2, h3, h4, h5, h6, h7, h10, h9, h8]
  rw [HF]
  clear HF
  go_enter Tryz.func32, Tryz.ntmps32
  go_wp2_with fail
  go_ret
  exact ⟨rfl, rfl⟩
set_option maxHeartbeats 400000 in
theorem applied_any {w : World} {Z q I} (h : Img w Z q I) : Calls Tryz.prog 27 #[.pointer (some ⟨q, 0, none⟩)] w fun e w' => e = .returned (.int .i64 I.applied) ∧ w = w' := by
  obtain ⟨L, b, vt, vp, ve, ps, h1, _⟩ := h
  have c0 := h1.c0
  clear h1
  go_enter Tryz.func27, Tryz.ntmps27
  go_wp2_with fail
  go_ret
  exact ⟨rfl, rfl⟩

theorem row_base {w : World} {B B' e s : Nat} {v : Value} {n : Nat} {xs : List Value} (h : w.ownsRow B e s v n xs) (hB : B' ≤ B) : w.ownsRow B' e s v n xs := by
  obtain ⟨h1, h2 | ⟨g, cap, cur, rfl, hb, hg, r⟩⟩ := h
  · exact ⟨h1, .inl h2⟩
  · exact ⟨h1, .inr ⟨g, cap, cur, rfl, Nat.le_trans hB hb, hg, r⟩⟩
theorem intKeys_dmap (fs : BM) : intKeys (dmap fs) = fs.map (·.1) := by
  simp [intKeys, dmap, Function.comp_def, Go.intOf]
theorem sorted_keys {fs : BM} (hr : fs.Pairwise (fun p q => p.1 < q.1)) {ss : List Int} (hp : ss.Perm (fs.map (·.1))) : ss.mergeSort (fun x y => decide (x ≤ y)) = fs.map (·.1) := by
  have hs : (fs.map (·.1)).Pairwise (fun x y => decide (x ≤ y) = true) := by
    rw [List.pairwise_map]
    exact hr.imp (fun h => by simp; omega)
  have h1 : (ss.mergeSort (fun x y => decide (x ≤ y))).Pairwise (fun x y => decide (x ≤ y) = true) := List.pairwise_mergeSort (fun a b c h1 h2 => by simp at h1 h2 ⊢; omega) (fun a b => by simp; omega) ss
  have h2 : (ss.mergeSort (fun x y => decide (x ≤ y))).Perm (fs.map (·.1)) := (List.mergeSort_perm ss _).trans hp
  exact h2.eq_of_pairwise (fun a b _ _ h3 h4 => by simp at h3 h4; omega) h1 hs
section
variable {w : World} {L : Nat → Prop} {q b : Nat} {vt vp ve : Value} {ps : List (Value × Pt)} {I : Im}
theorem keys_any (mb : Option Nat) (w : World) : Calls Tryz.prog 110 #[.map mb] w fun e w' => e = .returned (.func (.func 144) #[] #[.pointer (some ⟨w.heap.size, 0, none⟩)]) ∧ w' = w.alloc (.cells #[.map mb] 67) := callsIn_wide.1 (Tryz.maps_Keys_50 mb w)
theorem sorted_any (h : ImC w L q b vt vp ve ps I) : Calls Tryz.prog 109 #[.func (.func 144) #[] #[.pointer (some ⟨w.heap.size, 0, none⟩)]] (w.alloc (.cells #[.map (some b)] 67)) fun e w' => ∃ v, e = .returned v ∧ w'.ownsRow w.heap.size 3 1 v I.brs.length (intsV (I.brs.map (·.1))) ∧ Below w.heap.size w w' := by
  have hl := keys_few h.ok.keys (fun p hp => (h.ok.brs p hp).1)
  refine (callsIn_wide.1 (Tryz.slices_Sorted_keys_49_50 b I.brs.length (dmap I.brs) Rh w h.bmap (by rw [dmap_size]; unfold maxLen; omega) (by rw [dmap_size]; omega))).mono ?_
  rintro e w' ⟨v, ss, rfl, hS, hrow, hnil, hb⟩
  rw [intKeys_dmap] at hS
  have hl2 : ss.length = I.brs.length := by simpa using hS.length_eq
  rw [sorted_keys h.ok.keys hS, hl2] at hrow
  refine ⟨v, rfl, ?_, ((Below.refl _ w).alloc (Nat.le_refl _) _).trans (hb.mono (by simp))⟩
  exact row_base hrow (by simp)
end
theorem il_of_row {w : World} {B : Nat} {v : Value} {l : List Int} (h : w.ownsRow B 3 1 v l.length (intsV l)) (ok : ∀ x ∈ l, I64 x) (hl : l.length ≤ 17592186044415) : IL w v l ∧ In (fun k => B ≤ k) v l := by
  obtain ⟨h1, ⟨rfl, h0⟩ | ⟨g, cap, cur, rfl, hB, hg, hn, hc, hs, ht⟩⟩ := h
  · have : l = [] := List.length_eq_zero_iff.1 h0
    subst this
    exact ⟨IL.nil _, In.nil _ _⟩
  · refine ⟨⟨⟨some ⟨g, 0, none⟩, cap, rfl, hn, hc, (fun h => by cases h), fun hne => ⟨g, 0, rfl, (Array.getElem?_eq_some_iff.1 hg).1, fun i hi => ?_⟩⟩, ok, hl⟩, fun _ b off n c e => by cases e; exact hB⟩
    refine cell_blk hg _ _ ?_
    have h2 : (intsV l)[i]? = some (.int .i64 l[i]) := by simp [intsV, hi]
    rw [← ht, List.getElem?_take] at h2
    split at h2
    · simpa using h2
    · cases h2
set_option maxHeartbeats 800000 in
theorem ids_any {w : World} {L : Nat → Prop} {q b : Nat} {vt vp ve : Value} {ps : List (Value × Pt)} {I : Im} (h : ImC w L q b vt vp ve ps I) : Calls Tryz.prog 63 #[.pointer (some ⟨q, 0, none⟩)] w fun e w' => ∃ v, e = .returned v ∧ IL w' v (I.brs.map (·.1)) ∧ Below w.heap.size w w' := by
  have HK := hid (keys_any (some b) w)
  have HS := hid (sorted_any h)
  have c1 := h.c1
  have HO := hid h.ok
  clear h
  go_enter Tryz.func63, Tryz.ntmps63
  go_wp2_with (first | (go_at_call 110; refine HK.out.mono ?_; rintro e w1 ⟨rfl, rfl⟩) | (go_at_call 109; refine HS.out.mono ?_; rintro e w2 ⟨v, rfl, hrow, hb⟩))
  go_ret
  have hl := keys_few HO.out.keys (fun p hp => (HO.out.brs p hp).1)
  refine ⟨v, rfl, (il_of_row (l := I.brs.map (·.1)) (by simpa using hrow) (fun x hx => ?_) (by simp; omega)).1, hb⟩
  obtain ⟨p, hp, rfl⟩ := List.mem_map.1 hx
  have := (HO.out.brs p hp).1
  unfold I64; omega
end Go.Proofs.YtcffomhcmilcpaaGreat

/- Some cells of a block are stored, one behind the other. -/
namespace Go.Proofs.YtcffomhcmilcpaaGreat
open Go.RowKit Go.Maps
set_option maxRecDepth 100000
set_option linter.unusedSimpArgs false
set_option linter.unusedVariables false

def puts (W : World) (q : Nat) : Nat → List Value → World
  | _, [] => W
  | o, v :: r => puts (W.setCell ⟨q, o, none⟩ v) q (o + 1) r
structure PutsR (W N : World) (q o : Nat) (vs : List Value) : Prop where
  os : N.os = W.os
  tape : N.tape = W.tape
  output : N.output = W.output
  size : N.heap.size = W.heap.size
  other : ∀ b, b ≠ q → N.heap[b]? = W.heap[b]?
  blk : ∀ cs T, W.heap[q]? = some (.cells cs T) → ∃ cs' : Array Value, N.heap[q]? = some (.cells cs' T) ∧ cs'.size = cs.size ∧ ∀ j, cs'[j]? = if j < cs.size ∧ o ≤ j ∧ j < o + vs.length then vs[j - o]? else cs[j]?
theorem puts_all : ∀ (vs : List Value) (W : World) (q o : Nat), PutsR W (puts W q o vs) q o vs
  | [], W, q, o => ⟨rfl, rfl, rfl, rfl, fun _ _ => rfl, fun cs T h => ⟨cs, h, rfl, fun j => by rw [if_neg (by intro h; simp at h; omega)]⟩⟩
  | v :: r, W, q, o => by
    have ih := puts_all r (W.setCell ⟨q, o, none⟩ v) q (o + 1)
    refine ⟨ih.os, ih.tape, ih.output, ih.size.trans (by simp), fun b hb => (ih.other b hb).trans (Below.heap_setCell _ _ _ _ hb), fun cs T h => ?_⟩
    obtain ⟨cs', h1, h2, h3⟩ := ih.blk _ _ (set_box (j := o) (v := v) h)
    refine ⟨cs', h1, by rw [h2]; simp, fun j => ?_⟩
    rw [h3 j]
    simp only [Array.size_setIfInBounds, List.length_cons, Array.getElem?_setIfInBounds]
    by_cases e : o = j
    · subst e
      rw [if_neg (by omega)]
      simp only [if_true, Nat.sub_self, List.getElem?_cons_zero]
      by_cases hs : o < cs.size
      · rw [if_pos hs, if_pos ⟨hs, by omega, by omega⟩]
      · rw [if_neg hs, if_neg (by omega), Array.getElem?_eq_none (by omega)]
    · by_cases hc : j < cs.size ∧ o + 1 ≤ j ∧ j < o + 1 + r.length
      · rw [if_pos hc, if_pos (by omega)]
        rw [show j - o = (j - (o + 1)) + 1 by omega, List.getElem?_cons_succ]
      · rw [if_neg hc, if_neg e, if_neg (by omega)]
theorem PutsR.below {W N : World} {q o : Nat} {vs : List Value} (h : PutsR W N q o vs) {B : Nat} {w : World} (hb : Below B w W) (hq : B ≤ q) : Below B w N :=
  hb.trans ⟨h.os, h.tape, h.output, by rw [h.size]; exact Nat.le_refl _, fun k hk => h.other k (by omega)⟩
theorem PutsR.keeps {W N : World} {q o : Nat} {vs : List Value} (h : PutsR W N q o vs) {S : Nat → Prop} (hq : S q) : Keeps S W N :=
  ⟨h.os, h.tape, h.output, by rw [h.size]; exact Nat.le_refl _, fun k hk hS => h.other k (fun e => hS (by subst e; exact hq))⟩
/-- A whole box. -/
theorem PutsR.box9 {W N : World} {q : Nat} {v0 v1 v2 v3 v4 v5 v6 v7 v8 : Value} (h : PutsR W N q 0 [v0, v1, v2, v3, v4, v5, v6, v7, v8]) {cs : Array Value} {T : TypeId} (hc : W.heap[q]? = some (.cells cs T)) (hs : cs.size = 9) : N.heap[q]? = some (.cells #[v0, v1, v2, v3, v4, v5, v6, v7, v8] T) := by
  obtain ⟨cs', h1, h2, h3⟩ := h.blk _ _ hc
  have : cs' = #[v0, v1, v2, v3, v4, v5, v6, v7, v8] := by
    apply Array.ext_getElem?
    intro j
    rw [h3 j]
    by_cases hj : j < 9
    · rw [if_pos (by simp; omega)]
      simp
    · rw [if_neg (by simp; omega), Array.getElem?_eq_none (by omega), Array.getElem?_eq_none (by simp; omega)]
  rw [h1, this]
theorem flatP_set (ps : List (Value × Pt)) (hps : ∀ x ∈ ps, (pc x.1).length = 9) (i : Nat) (hi : i < ps.length) (x : Value × Pt) (hx : (pc x.1).length = 9) (j : Nat) :
    (flatP (ps.set i x))[j]? = if i * 9 ≤ j ∧ j < i * 9 + 9 then (pc x.1)[j - i * 9]? else (flatP ps)[j]? := by
  have e : j = (j / 9) * 9 + j % 9 := by omega
  have hm : j % 9 < 9 := Nat.mod_lt _ (by omega)
  have hps' : ∀ y ∈ ps.set i x, (pc y.1).length = 9 := fun y hy => by
    rcases List.mem_or_eq_of_mem_set hy with h | rfl
    · exact hps y h
    · exact hx
  have h1 := flatP_get (ps.set i x) (j / 9) (j % 9) hps' hm
  have h2 := flatP_get ps (j / 9) (j % 9) hps hm
  rw [← e] at h1 h2
  rw [h1, h2, List.getElem?_set]
  by_cases hd : i = j / 9
  · rw [if_pos hd, if_pos (by omega), if_pos (by omega)]
    simp only [Option.bind_some]
    congr 1
    omega
  · rw [if_neg hd, if_neg (by omega)]
/-- A state is stored into its place in the row. -/
theorem row_set {W N : World} {g cap n : Nat} {ps : List (Value × Pt)} (h : W.ownsRow 0 54 9 (.slice (some ⟨g, 0, none⟩) n cap) ps.length (flatP ps)) (hps : ∀ x ∈ ps, (pc x.1).length = 9) (i : Nat) (hi : i < ps.length) {x : Value × Pt} (hx : (pc x.1).length = 9) (hN : PutsR W N g (i * 9) (pc x.1)) :
    N.ownsRow 0 54 9 (.slice (some ⟨g, 0, none⟩) n cap) (ps.set i x).length (flatP (ps.set i x)) := by
  obtain ⟨h1, ⟨e, h0⟩ | ⟨g', cap', cur, e, hB, hg, hn, hc, hs, ht⟩⟩ := h
  · cases e
  · cases e
    obtain ⟨cs', a1, a2, a3⟩ := hN.blk _ _ hg
    have hps' : ∀ y ∈ ps.set i x, (pc y.1).length = 9 := fun y hy => by
      rcases List.mem_or_eq_of_mem_set hy with h | rfl
      · exact hps y h
      · exact hx
    refine ⟨by rw [flatP_length _ hps'], .inr ⟨g, cap, cs', by simp, hB, a1, by simpa using hn, hc, by rw [a2]; exact hs, ?_⟩⟩
    rw [List.length_set]
    apply List.ext_getElem?
    intro j
    rw [flatP_set ps hps i hi x hx j, List.getElem?_take]
    have hL := flatP_length ps hps
    by_cases hj : j < ps.length * 9
    · rw [if_pos hj]
      have h5 : (flatP ps)[j]? = cur[j]? := by
        rw [← ht, List.getElem?_take, if_pos hj]
        simp
      rw [h5]
      have h6 := a3 j
      rw [hx] at h6
      rw [Array.getElem?_toList, h6]
      by_cases hq : i * 9 ≤ j ∧ j < i * 9 + 9
      · rw [if_pos hq, if_pos ⟨by rw [hs]; have := Nat.mul_le_mul_right 9 hn; omega, hq.1, hq.2⟩]
      · rw [if_neg hq, if_neg (fun hh => hq hh.2)]
    · rw [if_neg hj, if_neg (by omega), List.getElem?_eq_none (by omega)]
theorem ImC.part9 {w : World} {L : Nat → Prop} {q b : Nat} {vt vp ve : Value} {ps : List (Value × Pt)} {I : Im} (h : ImC w L q b vt vp ve ps I) : ∀ x ∈ ps, (pc x.1).length = 9 := fun x hx => pc_part (h.each x hx).1
/-- The nine cells of a state in the row. -/
theorem ImC.at_ {w : World} {L : Nat → Prop} {q b : Nat} {vt ve : Value} {g n cap : Nat} {ps : List (Value × Pt)} {I : Im} (h : ImC w L q b vt (.slice (some ⟨g, 0, none⟩) n cap) ve ps I) (i : Nat) (x : Value × Pt) (hx : ps[i]? = some x) (t : Nat) (ht : t < 9) (u : Value) (hu : (pc x.1)[t]? = some u) : w.cell? ⟨g, i * 9 + t, none⟩ = some u := by
  have hc := World.ownsRow.cells h.parts (g := g) rfl (i * 9 + t) u (by rw [flatP_get ps i t h.part9 ht, hx]; exact hu)
  have add0 : (⟨g, 0, none⟩ : Addr).add (i * 9 + t) = ⟨g, i * 9 + t, none⟩ := by unfold Addr.add; split <;> simp_all
  rw [add0] at hc
  exact hc
end Go.Proofs.YtcffomhcmilcpaaGreat

/- Who is up. -/
namespace Go.Proofs.YtcffomhcmilcpaaGreat
open Go.RowKit Go.Maps
set_option maxRecDepth 100000
set_option linter.unusedSimpArgs false
set_option linter.unusedVariables false

theorem field93a (l : Int) (u : Bool) (w : World) : (Instr.field 93 (.agg #[.int .i64 l, .bool u]) 0).run Tryz.prog w = .ok (.int .i64 l) w := by kernel_rfl
theorem field93b (l : Int) (u : Bool) (w : World) : (Instr.field 93 (.agg #[.int .i64 l, .bool u]) 1).run Tryz.prog w = .ok (.bool u) w := by kernel_rfl
theorem valB_at : ∀ (bs : BM), bs.Pairwise (fun p q => p.1 < q.1) → ∀ (k : Nat) (p : Int × Br), bs[k]? = some p → valB bs p.1 = p.2
  | [], _, k, p, h => by simp at h
  | y :: r, hp, 0, p, h => by
    simp at h
    subst h
    simp [valB, getB]
  | y :: r, hp, k + 1, p, h => by
    have h' := List.pairwise_cons.1 hp
    have hk : r[k]? = some p := by simpa using h
    have hm := List.mem_of_getElem? hk
    have hlt := h'.1 p hm
    have ih := valB_at r h'.2 k p hk
    have e : (y.1 == p.1) = false := by simp; omega
    unfold valB getB at ih ⊢
    simp only [List.find?_cons, e]
    exact ih
theorem upL_snoc (l : BM) (k : Nat) (h : k < l.length) : upL (l.take (k + 1)) = upL (l.take k) ++ (if l[k].2.up = true then [l[k].1] else []) := by
  rw [List.take_succ_eq_append_getElem h]
  unfold upL
  rw [List.filter_append, List.map_append]
  by_cases hu : l[k].2.up = true <;> simp [List.filter_cons, hu]
set_option maxHeartbeats 3200000 in
theorem up_any {w : World} {L : Nat → Prop} {q b : Nat} {vt vp ve : Value} {ps : List (Value × Pt)} {I : Im} (h : ImC w L q b vt vp ve ps I) : Calls Tryz.prog 24 #[.pointer (some ⟨q, 0, none⟩)] w fun e w' => ∃ v', e = .returned v' ∧ IL w' v' (upL I.brs) ∧ In (fun b => w.heap.size ≤ b) v' (upL I.brs) ∧ Below w.heap.size w w' := by
  have H63 := hid (ids_any h)
  have HI := hid h
  have hl7 := keys_few h.ok.keys (fun p hp => (h.ok.brs p hp).1)
  have HK := hid h.ok.keys
  have HBR := hid h.ok.brs
  obtain ⟨i0, hi0, hz0, hz1, hz2⟩ := info3
  have hfa := field93a
  have hfb := field93b
  clear h
  generalize hbs : I.brs = bs at *
  go_enter Tryz.func24, Tryz.ntmps24
  go_wp2_with fail
  refine H63.out.mono ?_
  rintro e w1 ⟨v, rfl, hil, hb1⟩
  obtain ⟨⟨a, cap, rfl, hcap, hcm, hnn, hat⟩, hok, hfew⟩ := hil
  have HA := hid hat
  have HB1 := hid hb1
  clear hat hok hnn hcap hcm hfew H63 hb1
  have hll : (bs.map (·.1)).length = bs.length := by simp
  rw [hll]
  go_wp2_with fail
  go_loopg [3, 9] bs.length (fun kx s3 s9 wr => ∃ k : Nat, k ≤ bs.length ∧ bs.length - k ≤ kx ∧ s9 = .int .i64 (k : Int) ∧ Hid (wr.ownsRow w1.heap.size 3 1 s3 (upL (bs.take k)).length (vals (upL (bs.take k))) ∧ Below w1.heap.size w1 wr) ∧ (∃ a n c, s3 = .slice a n c))
  case atStart => exact ⟨0, Nat.zero_le _, by omega, rfl, ⟨World.ownsRow_nil _ _ _ _, Below.refl _ _⟩, ⟨_, _, _, rfl⟩⟩
  case round =>
    obtain ⟨k, hk, hkx, rfl, HR, ⟨a1, n1, c1, rfl⟩⟩ := hrel
    by_cases hlt : k < bs.length
    · obtain ⟨g, off, rfl, hg, hc⟩ := HA.out (by intro e; have := congrArg List.length e; rw [List.length_map] at this; simp only [List.length_nil] at this; omega)
      have hck := kept_cell HR.out.2 (hc k (by simpa using hlt))
      simp only [List.getElem_map] at hck
      have hx : bs[k]? = some bs[k] := List.getElem?_eq_getElem hlt
      have hv := valB_at bs HK.out k _ hx
      have hbr := HBR.out bs[k] (by simp)
      have hlk := (HI.out.under (HB1.out.trans (HR.out.2.mono HB1.out.size))).look bs[k].1 (by unfold I64; omega)
      rw [hbs, hv] at hlk
      have c1q := (HI.out.under (HB1.out.trans (HR.out.2.mono HB1.out.size))).c1
      have HS := hid (upL_snoc bs k hlt)
      have hlt' : (k : Int) < (bs.length : Int) := by omega
      have hn1 : (upL (bs.take k)).length ≤ k := by have := upL_len (bs.take k); rw [List.length_take] at this; omega
      generalize bs[k] = z at *
      obtain ⟨y, lf, u⟩ := z
      simp only [Br.val] at *
      clear hc hx hv
      have hy1 := hbr.1.1
      have hy2 := hbr.1.2
      clear hbr
      cases u with
      | true =>
        rw [if_pos rfl] at HS
        have HX : Hid ((wr.alloc (.cells #[.int .i64 y] 3)).ownsRow w1.heap.size 3 1 (.slice a1 n1 c1) (upL (bs.take k)).length (vals (upL (bs.take k)))) := HR.out.1.alloc _
        have HN1 : Hid (∀ j u, ([.int .i64 y] : List Value)[j]? = some u → (wr.alloc (.cells #[.int .i64 y] 3)).cell? ((⟨wr.heap.size, 0, none⟩ : Addr).add j) = some u) := fun j u hu => by
          cases j with
          | zero => simp at hu; subst hu; rw [add_at]; exact cell_blk (heap_alloc_new _ _) 0 _ rfl
          | succ j => simp at hu
        have HO1 : Hid (∀ u ∈ ([.int .i64 y] : List Value), u.oneCell' = true) := fun u hu => by simp at hu; subst hu; rfl
        have hbs1 := HR.out.2.size
        go_wp2_with (at_builtin; go_loud (refine wpList_append_own_at _ rfl _ _ 23 rfl w1.heap.size 3 i0 _ 1 8 Tryz.underlying23 hi0 hz0 hz1 hz2 rfl (by decide) _ (upL (bs.take k)).length _ rfl HX.out ⟨wr.heap.size, 0, none⟩ 1 1 [.int .i64 y] rfl rfl HN1.out HO1.out (by unfold maxLen; omega) (by omega) (by simp; omega) ?_); intro v2 w2 hown2 hg2 _ hat2)
        have hsh : ∃ a n c, v2 = .slice a n c := by
          rcases hown2.2 with ⟨e, _⟩ | ⟨g, cp, cur, e, _⟩
          · exact ⟨_, _, _, e⟩
          · exact ⟨_, _, _, e⟩
        obtain ⟨a2, n2, c2, rfl⟩ := hsh
        have HB2 : Hid (Below w1.heap.size w1 w2) := (HR.out.2.alloc hbs1 _).grown hg2 (by have := (HR.out.2.alloc hbs1 (.cells #[.int .i64 y] 3)).size; exact this) (fun j hj => (World.ownsRow.lt HX.out j hj).1)
        have HW2 := hid hown2
        clear hown2 hg2 hat2
        go_wp2_with fail
        go_roundg (bs.length - (k + 1))
        case measure => omega
        case rel => exact ⟨k + 1, by omega, Nat.le_refl _, by go_num, ⟨by rw [HS.out]; simp only [List.length_append, List.length_cons, List.length_nil, Nat.zero_add, vals, List.map_append, List.map_cons, List.map_nil]; exact HW2.out, HB2.out⟩, ⟨_, _, _, rfl⟩⟩
      | false =>
        rw [if_neg (by simp), List.append_nil] at HS
        go_wp2_with fail
        go_roundg (bs.length - (k + 1))
        case measure => omega
        case rel => exact ⟨k + 1, by omega, Nat.le_refl _, by go_num, (by rw [HS.out]; exact HR.out), ⟨_, _, _, rfl⟩⟩
    · have hlt' : ¬ (k : Int) < (bs.length : Int) := by omega
      go_wp2_with fail
      go_ret
      have hr := HR.out
      rw [List.take_of_length_le (by omega)] at hr
      exact ⟨_, rfl, IL.of hr.1 (fun x hx => (by
        obtain ⟨p, hp, rfl⟩ := List.mem_map.1 hx
        have := (HBR.out p (List.mem_filter.1 hp).1).1
        unfold I64; omega)) (by have := upL_len bs; omega), (in_own hr.1).mono (fun k hk => Nat.le_trans HB1.out.size hk), HB1.out.trans (hr.2.mono HB1.out.size)⟩
end Go.Proofs.YtcffomhcmilcpaaGreat

/- What decisions keep to, without memory. -/
namespace Go.Proofs.YtcffomhcmilcpaaGreat
set_option linter.unusedSimpArgs false
set_option linter.unusedVariables false

theorem nextP_eq (p : Pt) (l : Int) : nextP p l = ⟨p.id, l, if l = p.leader then p.epoch else p.epoch + 1, p.ver + 1, p.isr, p.reps, p.add, p.rem, p.min⟩ := by
  unfold nextP
  split
  · rename_i h; subst h; rfl
  · rfl
theorem changed_zero {p q : Pt} {l : Int} (h : changedP p l = (q, 0)) : q = nextP p l ∧ overB (nextP p l) = false := by
  unfold changedP at h
  cases ho : overB (nextP p l) with
  | true => rw [if_pos ho] at h; cases h
  | false => rw [if_neg (by simp [ho])] at h; cases h; exact ⟨rfl, rfl⟩
theorem changed_cases (p : Pt) (l : Int) : changedP p l = (Pt.zero, 20) ∨ changedP p l = (nextP p l, 0) := by
  unfold changedP
  split
  · exact .inl rfl
  · exact .inr rfl
theorem over_false {p : Pt} (h : overB p = false) : p.epoch ≤ 1000000000 ∧ p.ver ≤ 1000000000 := by
  unfold overB at h
  have := of_decide_eq_false h
  omega

/-- The lists of a state. -/
structure ListsP (p : Pt) : Prop where
  id : 1 ≤ p.id ∧ p.id ≤ 16
  min : 1 ≤ p.min ∧ p.min ≤ 5
  isr : p.isr.Nodup ∧ ∀ x ∈ p.isr, 1 ≤ x ∧ x ≤ 7
  reps : p.reps.Nodup ∧ ∀ x ∈ p.reps, 1 ≤ x ∧ x ≤ 7
  add : p.add.Nodup ∧ ∀ x ∈ p.add, 1 ≤ x ∧ x ≤ 7
  rem : p.rem.Nodup ∧ ∀ x ∈ p.rem, 1 ≤ x ∧ x ≤ 7
  some : p.isr ≠ []
  isrIn : ∀ x ∈ p.isr, x ∈ p.reps
  addIn : ∀ x ∈ p.add, x ∈ p.reps
  remIn : ∀ x ∈ p.rem, x ∈ p.reps
  apart : ∀ x ∈ p.rem, x ∉ p.add
  left : outL p.reps p.rem ≠ []
theorem RightP.lists {p : Pt} (h : RightP p) : ListsP p := ⟨h.id, h.min, h.isr, h.reps, h.add, h.rem, h.some, h.isrIn, h.addIn, h.remIn, h.apart, h.left⟩
theorem next_right {p : Pt} {l : Int} (h : ListsP p) (he : 1 ≤ p.epoch) (hv : 1 ≤ p.ver) (hl : l = 0 ∨ l ∈ p.isr) (ho : overB (nextP p l) = false) : RightP (nextP p l) := by
  have ho' := over_false ho
  rw [nextP_eq] at *
  simp only at ho'
  refine ⟨h.id, h.min, ⟨?_, ho'.1⟩, ⟨by simp; omega, ho'.2⟩, h.isr, h.reps, h.add, h.rem, h.some, h.isrIn, h.addIn, h.remIn, h.apart, h.left, hl⟩
  simp only
  split <;> omega
theorem heir_spec (p : Pt) (up : List Int) : heirP p up = 0 ∨ (heirP p up ∈ p.reps ∧ heirP p up ∈ p.isr ∧ heirP p up ∈ up ∧ heirP p up ≠ p.leader) := by
  unfold heirP headL
  cases hL : outL (inL (inL p.reps p.isr) up) [p.leader] with
  | nil => left; rfl
  | cons x r =>
    right
    have : x ∈ outL (inL (inL p.reps p.isr) up) [p.leader] := by rw [hL]; simp
    rw [mem_outL, mem_inL, mem_inL] at this
    obtain ⟨⟨⟨h1, h2⟩, h3⟩, h4⟩ := this
    exact ⟨h1, h2, h3, by simpa using h4⟩
theorem outL_one {l : List Int} {b : Int} (hd : l.Nodup) (h : 1 < l.length) : outL l [b] ≠ [] := by
  match l, hd, h with
  | x :: y :: r, hd, _ =>
    intro e
    have hx : x ∉ outL (x :: y :: r) [b] := by rw [e]; simp
    have hy : y ∉ outL (x :: y :: r) [b] := by rw [e]; simp
    rw [mem_outL] at hx hy
    simp at hx hy hd
    omega
theorem ids_outL {l m : List Int} (h : l.Nodup ∧ ∀ x ∈ l, 1 ≤ x ∧ x ≤ 7) : (outL l m).Nodup ∧ ∀ x ∈ outL l m, 1 ≤ x ∧ x ≤ 7 := ⟨nodup_outL h.1, fun x hx => h.2 x (mem_outL.1 hx).1⟩
theorem ids_inL {l m : List Int} (h : l.Nodup ∧ ∀ x ∈ l, 1 ≤ x ∧ x ≤ 7) : (inL l m).Nodup ∧ ∀ x ∈ inL l m, 1 ≤ x ∧ x ≤ 7 := ⟨nodup_inL h.1, fun x hx => h.2 x (mem_inL.1 hx).1⟩
theorem ids_nil : ([] : List Int).Nodup ∧ ∀ x ∈ ([] : List Int), 1 ≤ x ∧ x ≤ 7 := ⟨by simp, fun x hx => by cases hx⟩
theorem outL_nil (l : List Int) : outL l [] = l := outL_self fun x _ h => by cases h

/-- From one state to the next. -/
def Rules (p q : Pt) (k : Int) : Prop := RightP q ∧ (q = p ∨ (q.id = p.id ∧ q.min = p.min ∧ q.ver = p.ver + 1 ∧ ((q.leader = p.leader ∧ q.epoch = p.epoch) ∨ (q.leader ≠ p.leader ∧ q.epoch = p.epoch + 1)) ∧
  (q.leader ≠ p.leader → q.leader ≠ 0 → q.leader ∈ p.isr ∧ q.leader ∈ q.isr) ∧ (∀ x ∈ p.reps, x ∈ q.reps ∨ (k = 5 ∧ x ∈ p.add) ∨ (k = 6 ∧ ∀ y ∈ q.reps, y ∈ q.isr))))
theorem rules_next {p n : Pt} {l k : Int} (hp : RightP p) (hn : ListsP n) (e1 : n.id = p.id) (e2 : n.min = p.min) (e3 : n.ver = p.ver) (e4 : n.epoch = p.epoch) (e5 : n.leader = p.leader)
    (hl : l = 0 ∨ l ∈ n.isr) (hll : l ≠ p.leader → l ≠ 0 → l ∈ p.isr) (hr : ∀ x ∈ p.reps, x ∈ n.reps ∨ (k = 5 ∧ x ∈ p.add) ∨ (k = 6 ∧ ∀ y ∈ n.reps, y ∈ n.isr)) (ho : overB (nextP n l) = false) : Rules p (nextP n l) k := by
  refine ⟨next_right hn (by rw [e4]; exact hp.epoch.1) (by rw [e3]; exact hp.ver.1) hl ho, .inr ?_⟩
  rw [nextP_eq]
  refine ⟨e1, e2, by simp only; rw [e3], ?_, ?_, hr⟩
  · simp only
    by_cases h : l = p.leader
    · left; exact ⟨h, by rw [if_pos (by rw [e5]; exact h), e4]⟩
    · right; exact ⟨h, by rw [if_neg (by rw [e5]; exact h), e4]⟩
  · intro h1 h2
    refine ⟨hll h1 h2, ?_⟩
    rcases hl with h | h
    · exact absurd h h2
    · exact h
theorem elect_rules {p q : Pt} {l k : Int} (hp : RightP p) (h : electP p l = (q, 0)) : Rules p q k := by
  unfold electP at h
  rw [rightB_iff.2 hp] at h
  split at h
  · cases h
  split at h
  · cases h
  rename_i h2
  split at h
  · cases h; exact ⟨hp, .inl rfl⟩
  obtain ⟨rfl, ho⟩ := changed_zero h
  have hl : l = 0 ∨ l ∈ p.isr := by
    by_cases h0 : l = 0
    · exact .inl h0
    · right
      simp [h0, lackB] at h2
      exact hasB_iff.1 h2
  exact rules_next hp hp.lists rfl rfl rfl rfl rfl hl (fun _ h0 => hl.resolve_left h0) (fun x hx => .inl hx) ho
theorem back_rules {p q : Pt} {b k : Int} (hp : RightP p) (h : backP p b = (q, 0)) : Rules p q k := by
  unfold backP at h
  split at h
  · cases h
  split at h
  · cases h; exact ⟨hp, .inl rfl⟩
  rename_i h2
  obtain ⟨rfl, ho⟩ := changed_zero h
  have hb : b ∈ p.isr := by
    simp [lackB] at h2
    exact hasB_iff.1 h2.2
  exact rules_next hp hp.lists rfl rfl rfl rfl rfl (.inr hb) (fun _ _ => hb) (fun x hx => .inl hx) ho
theorem fen_sub {p : Pt} {b x : Int} (h : x ∈ fenIsr p b) : x ∈ p.isr := by
  unfold fenIsr at h
  split at h
  · exact (mem_outL.1 h).1
  · exact h
theorem fen_lists {p : Pt} {b : Int} (hp : RightP p) : ListsP (fenP p b) := by
  refine ⟨hp.id, hp.min, ?_, hp.reps, hp.add, hp.rem, ?_, fun x hx => hp.isrIn x (fen_sub hx), hp.addIn, hp.remIn, hp.apart, hp.left⟩
  · show (fenIsr p b).Nodup ∧ ∀ x ∈ fenIsr p b, 1 ≤ x ∧ x ≤ 7
    unfold fenIsr
    split
    · exact ids_outL hp.isr
    · exact hp.isr
  · show fenIsr p b ≠ []
    unfold fenIsr
    split
    · rename_i h; exact outL_one hp.isr.1 h
    · exact hp.some
theorem fen_keep {p : Pt} {b x : Int} (hx : x ∈ p.isr) (hne : x ≠ b) : x ∈ fenIsr p b := by
  unfold fenIsr
  split
  · exact mem_outL.2 ⟨hx, by simpa using hne⟩
  · exact hx
theorem fen_full {p : Pt} {b : Int} (h : (fenIsr p b).length = p.isr.length) : fenIsr p b = p.isr := by
  unfold fenIsr at *
  split
  · rename_i hc; rw [if_pos hc] at h; exact outL_full h
  · rfl
theorem fenL_spec {p : Pt} {b : Int} (up : List Int) (hp : RightP p) : fenL p b up = 0 ∨ fenL p b up ∈ fenIsr p b := by
  unfold fenL
  split
  · rcases heir_spec (fenP p b) up with h | ⟨_, h, _⟩
    · exact .inl h
    · exact .inr h
  · rename_i hne
    rcases hp.lead with h | h
    · exact .inl h
    · exact .inr (fen_keep h hne)
theorem fence_rules {p q : Pt} {b k : Int} {up : List Int} (hp : RightP p) (h : fenceP p b up = (q, 0)) : Rules p q k := by
  unfold fenceP at h
  split at h
  · cases h
  split at h
  · rename_i h2
    cases h
    have e : fenP p b = p := by unfold fenP; rw [fen_full h2.2]
    rw [e]
    exact ⟨hp, .inl rfl⟩
  obtain ⟨rfl, ho⟩ := changed_zero h
  have hl := fenL_spec (b := b) up hp
  exact rules_next hp (fen_lists hp) rfl rfl rfl rfl rfl hl (fun _ h0 => fen_sub (hl.resolve_left h0)) (fun x hx => .inl hx) ho
theorem alter_rules {p q : Pt} {l e v k : Int} {isr up : List Int} (hp : RightP p) (h : alterP p l e v isr up = (q, 0)) : Rules p q k := by
  unfold alterP at h
  split at h
  · cases h
  split at h
  · rename_i h2; exact absurd (congrArg Prod.snd h) h2
  split at h
  · cases h
  rename_i h3
  split at h
  · cases h
  rename_i h4
  obtain ⟨rfl, ho⟩ := changed_zero h
  have hs : syncB p isr up = true := by simpa using h4
  unfold syncB at hs
  simp only [Bool.and_eq_true] at hs
  have h0 : l ≠ 0 := fun e => h3 (.inl e)
  have h5 : l = p.leader := Decidable.byContradiction fun e => h3 (.inr e)
  have hli : l ∈ p.isr := by rw [h5]; exact hp.lead.resolve_left (by rw [← h5]; exact h0)
  have hln : l ∈ inL p.reps isr := mem_inL.2 ⟨hp.isrIn l hli, by rw [h5]; exact hasB_iff.1 hs.1.1.2⟩
  have hL : ListsP { p with isr := inL p.reps isr } := ⟨hp.id, hp.min, ids_inL hp.reps, hp.reps, hp.add, hp.rem, (fun e => by have := hln; simp only at e; rw [e] at this; cases this), fun x hx => (mem_inL.1 hx).1, hp.addIn, hp.remIn, hp.apart, hp.left⟩
  exact rules_next hp hL rfl rfl rfl rfl rfl (.inr hln) (fun hne _ => absurd h5 hne) (fun x hx => .inl hx) ho
theorem may_spec {t : List Int} (h : mayB t = true) : t ≠ [] ∧ t.length ≤ 5 ∧ (t.Nodup ∧ ∀ x ∈ t, 1 ≤ x ∧ x ≤ 7) := by
  unfold mayB at h
  simp only [Bool.and_eq_true] at h
  have h1 := upB_iff.1 h.1
  refine ⟨fun e => by rw [e] at h1; simp at h1, by omega, idsB_iff.1 h.2⟩
theorem beg_lists {p : Pt} {t : List Int} (hp : RightP p) (ht : t ≠ [] ∧ t.length ≤ 5 ∧ (t.Nodup ∧ ∀ x ∈ t, 1 ≤ x ∧ x ≤ 7)) : ListsP (begP p t) := by
  have hin : ∀ x, x ∈ t ++ outL p.reps t ↔ x ∈ t ∨ x ∈ p.reps := fun x => by
    rw [List.mem_append, mem_outL]
    by_cases hx : x ∈ t <;> simp [hx]
  have hidr := ids_outL (m := t) hp.reps
  refine ⟨hp.id, hp.min, hp.isr, ⟨?_, fun x hx => ?_⟩, ids_outL ht.2.2, hidr, hp.some, fun x hx => (hin x).2 (.inr (hp.isrIn x hx)), fun x hx => (hin x).2 (.inl (mem_outL.1 hx).1), fun x hx => (hin x).2 (.inr (mem_outL.1 hx).1), fun x hx hy => (mem_outL.1 hx).2 (mem_outL.1 hy).1, ?_⟩
  · show (t ++ outL p.reps t).Nodup
    exact List.nodup_append.2 ⟨ht.2.2.1, hidr.1, fun a ha b hb e => by subst e; exact (mem_outL.1 hb).2 ha⟩
  · rcases List.mem_append.1 hx with h | h
    · exact ht.2.2.2 x h
    · exact hidr.2 x h
  · show outL (t ++ outL p.reps t) (outL p.reps t) ≠ []
    intro e
    cases t with
    | nil => exact ht.1 rfl
    | cons y r =>
      have : y ∈ outL ((y :: r) ++ outL p.reps (y :: r)) (outL p.reps (y :: r)) := mem_outL.2 ⟨by simp, fun h => (mem_outL.1 h).2 (by simp)⟩
      rw [e] at this
      cases this
theorem begin_cases {p : Pt} {t up : List Int} {q : Pt} (h : beginP p t up = (q, 0)) : (t ≠ [] ∧ t.length ≤ 5 ∧ (t.Nodup ∧ ∀ x ∈ t, 1 ≤ x ∧ x ≤ 7)) ∧ movingB p = false ∧ (∀ x ∈ outL t p.reps, x ∈ up) ∧ ((p.reps = t ∧ q = p) ∨ (p.reps ≠ t ∧ q = nextP (begP p t) p.leader ∧ overB (nextP (begP p t) p.leader) = false)) := by
  unfold beginP at h
  split at h
  · cases h
  rename_i h1
  split at h
  · cases h
  rename_i h2
  split at h
  · cases h
  rename_i h3
  have hm : mayB t = true := by simp at h1; exact h1.2
  refine ⟨may_spec hm, by simpa using h2, fun x hx => ?_, ?_⟩
  · have : (outL t p.reps).all (hasB up) = true := by simpa using h3
    exact hasB_iff.1 (List.all_eq_true.1 this x hx)
  · split at h
    · rename_i h4; cases h; exact .inl ⟨h4, rfl⟩
    · rename_i h4; obtain ⟨rfl, ho⟩ := changed_zero h; exact .inr ⟨h4, rfl, ho⟩
theorem begin_rules {p q : Pt} {t up : List Int} {k : Int} (hp : RightP p) (h : beginP p t up = (q, 0)) : Rules p q k := by
  obtain ⟨ht, _, _, hc⟩ := begin_cases h
  rcases hc with ⟨_, rfl⟩ | ⟨_, rfl, ho⟩
  · exact ⟨hp, .inl rfl⟩
  · refine rules_next hp (beg_lists hp ht) rfl rfl rfl rfl rfl hp.lead (fun hne => absurd rfl hne) (fun x hx => .inl ?_) ho
    show x ∈ t ++ outL p.reps t
    rw [List.mem_append, mem_outL]
    by_cases hxt : x ∈ t <;> simp [hxt, hx]
theorem setL_spec {p : Pt} {g : List Int} (up : List Int) (hp : RightP p) : setL p g up = 0 ∨ setL p g up ∈ outL p.isr g := by
  unfold setL
  split
  · rcases heir_spec (setP p g) up with h | ⟨_, h, _⟩
    · exact .inl h
    · exact .inr h
  · rename_i hne
    rcases hp.lead with h | h
    · exact .inl h
    · exact .inr (mem_outL.2 ⟨h, fun e => hne (hasB_iff.2 e)⟩)
theorem set_lists {p : Pt} {g : List Int} (hp : RightP p) (hs : outL p.isr g ≠ []) : ListsP (setP p g) := by
  refine ⟨hp.id, hp.min, ids_outL hp.isr, ids_outL hp.reps, ids_nil, ids_nil, hs, fun x hx => mem_outL.2 ⟨hp.isrIn x (mem_outL.1 hx).1, (mem_outL.1 hx).2⟩, fun x hx => (by cases hx), fun x hx => (by cases hx), fun x hx => (by cases hx), ?_⟩
  show outL (outL p.reps g) [] ≠ []
  rw [outL_nil]
  intro e
  cases hL : outL p.isr g with
  | nil => exact hs hL
  | cons x r =>
    have hx : x ∈ outL p.isr g := by rw [hL]; simp
    have : x ∈ outL p.reps g := mem_outL.2 ⟨hp.isrIn x (mem_outL.1 hx).1, (mem_outL.1 hx).2⟩
    rw [e] at this
    cases this
theorem finish_cases {p q : Pt} {up : List Int} (h : finishP p up = (q, 0)) : movingB p = true ∧ (∀ x ∈ targetsP p, x ∈ p.isr) ∧ q = nextP (setP p p.rem) (setL p p.rem up) ∧ overB (nextP (setP p p.rem) (setL p p.rem up)) = false := by
  unfold finishP at h
  split at h
  · cases h
  split at h
  · cases h
  rename_i h2
  simp only [Bool.or_eq_true, Bool.not_eq_true', not_or] at h2
  obtain ⟨rfl, ho⟩ := changed_zero h
  refine ⟨by simpa using h2.1, fun x hx => ?_, rfl, ho⟩
  have : (targetsP p).all (hasB p.isr) = true := by simpa using h2.2
  exact hasB_iff.1 (List.all_eq_true.1 this x hx)
theorem finish_rules {p q : Pt} {up : List Int} (hp : RightP p) (h : finishP p up = (q, 0)) : Rules p q 6 := by
  obtain ⟨_, h2, rfl, ho⟩ := finish_cases h
  have hs : outL p.isr p.rem ≠ [] := by
    intro e
    cases hL : outL p.reps p.rem with
    | nil => exact hp.left hL
    | cons x r =>
      have hx : x ∈ outL p.reps p.rem := by rw [hL]; simp
      have : x ∈ outL p.isr p.rem := mem_outL.2 ⟨h2 x hx, (mem_outL.1 hx).2⟩
      rw [e] at this
      cases this
  have hl := setL_spec (g := p.rem) up hp
  refine rules_next hp (set_lists hp hs) rfl rfl rfl rfl rfl hl (fun _ h0 => (mem_outL.1 (hl.resolve_left h0)).1) (fun x hx => .inr (.inr ⟨rfl, fun y hy => ?_⟩)) ho
  exact mem_outL.2 ⟨h2 y hy, (mem_outL.1 hy).2⟩
theorem cancel_cases {p q : Pt} {up : List Int} (h : cancelP p up = (q, 0)) : movingB p = true ∧ ¬ (∀ x ∈ p.isr, x ∈ p.add) ∧ q = nextP (setP p p.add) (setL p p.add up) ∧ overB (nextP (setP p p.add) (setL p p.add up)) = false := by
  unfold cancelP at h
  split at h
  · cases h
  split at h
  · cases h
  rename_i h2
  simp only [Bool.or_eq_true, Bool.not_eq_true', not_or] at h2
  obtain ⟨rfl, ho⟩ := changed_zero h
  refine ⟨by simpa using h2.1, fun hx => h2.2 (List.all_eq_true.2 fun x hxx => hasB_iff.2 (hx x hxx)), rfl, ho⟩
theorem cancel_rules {p q : Pt} {up : List Int} (hp : RightP p) (h : cancelP p up = (q, 0)) : Rules p q 5 := by
  obtain ⟨_, h2, rfl, ho⟩ := cancel_cases h
  have hs : outL p.isr p.add ≠ [] := fun e => h2 fun x hx => Decidable.byContradiction fun hn => by
    have : x ∈ outL p.isr p.add := mem_outL.2 ⟨hx, hn⟩
    rw [e] at this
    cases this
  have hl := setL_spec (g := p.add) up hp
  refine rules_next hp (set_lists hp hs) rfl rfl rfl rfl rfl hl (fun _ h0 => (mem_outL.1 (hl.resolve_left h0)).1) (fun x hx => ?_) ho
  by_cases hxa : x ∈ p.add
  · exact .inr (.inl ⟨rfl, hxa⟩)
  · exact .inl (mem_outL.2 ⟨hx, hxa⟩)
/-- What is refused is nothing. -/
theorem changed_err {p q : Pt} {l e : Int} (h : changedP p l = (q, e)) (he : e ≠ 0) : q = Pt.zero := by
  rcases changed_cases p l with h1 | h1 <;> rw [h1] at h <;> cases h
  · rfl
  · exact absurd rfl he
end Go.Proofs.YtcffomhcmilcpaaGreat

/- A state is put into its place. -/
namespace Go.Proofs.YtcffomhcmilcpaaGreat
open Go.RowKit Go.Maps
set_option maxRecDepth 100000
set_option linter.unusedSimpArgs false
set_option linter.unusedVariables false

theorem ImOk.part {I : Im} (h : ImOk I) {p : Pt} (hp : RightP p) (i : Nat) (hi : p.id = (i : Int) + 1) : ImOk { I with parts := I.parts.set i p } := by
  refine ⟨h.keys, h.brs, fun j r hr => ?_, by simpa using h.few, h.tops, h.name, h.nums, h.eps, h.epv, h.app⟩
  simp only [List.getElem?_set] at hr
  split at hr
  · rename_i e
    split at hr
    · cases hr
      subst e
      exact ⟨hp, hi⟩
    · cases hr
  · exact h.parts j r hr
/-- What take leaves. -/
theorem ImC.take {w N : World} {L X : Nat → Prop} {q b : Nat} {vt ve : Value} {g n cap : Nat} {ps : List (Value × Pt)} {I : Im} (h : ImC w L q b vt (.slice (some ⟨g, 0, none⟩) n cap) ve ps I) {v : Value} {p : Pt} (hv : PartM w v p) (hX : InP X v p) (hXo : ∀ k, X k → k < w.heap.size ∧ ¬ Own q b vt (.slice (some ⟨g, 0, none⟩) n cap) ve k)
    (hp : RightP p) (i : Nat) (hi : i < ps.length) (hid : p.id = (i : Int) + 1) (hN : PutsR w N g (i * 9) (pc v)) : ImC N (fun k => L k ∨ X k) q b vt (.slice (some ⟨g, 0, none⟩) n cap) ve (ps.set i (v, p)) { I with parts := I.parts.set i p } := by
  have hg : Own q b vt (.slice (some ⟨g, 0, none⟩) n cap) ve g := .inr (.inr (.inr (.inl rfl)))
  have hgq : q ≠ g := fun e => h.ne_q.2.1 (by rw [e]; rfl)
  have hgb : b ≠ g := fun e => h.ne_b.2.1 (by rw [e]; rfl)
  have hs : w.heap.size ≤ N.heap.size := by rw [hN.size]; exact Nat.le_refl _
  refine ⟨(hN.other q hgq).trans h.cells, ?_, row_kept h.tops (fun k hk => hN.other k (fun e => by subst e; exact h.ne_rows.1 hk rfl)), row_set h.parts h.part9 i hi (pc_part hv) hN, row_kept h.eps (fun k hk => hN.other k (fun e => by subst e; exact h.ne_rows.2.2 rfl hk)), fun x hx => ?_, ?_, fun k hk => ?_, h.ok.part hp i hid⟩
  · obtain ⟨es, clock, hm, r⟩ := h.bmap
    exact ⟨es, clock, (hN.other b hgb).trans hm, r⟩
  · rcases List.mem_or_eq_of_mem_set hx with hx | rfl
    · obtain ⟨h1, h2⟩ := h.each x hx
      exact ⟨h1.kept h2 (fun k hk => hN.other k (fun e => by subst e; exact (h.lists k hk).2 hg)) hs, h2.mono fun k hk => .inl hk⟩
    · exact ⟨hv.kept hX (fun k hk => hN.other k (fun e => by subst e; exact (hXo k hk).2 hg)) hs, hX.mono fun k hk => .inr hk⟩
  · rw [h.abs]
    simp [List.map_set]
  · rw [hN.size]
    rcases hk with hk | hk
    · exact h.lists k hk
    · exact hXo k hk
set_option maxHeartbeats 1600000 in
theorem take_no {w : World} (q : Nat) {v : Value} {p : Pt} (hv : PartM w v p) (e : Int) (he : e ≠ 0) (he2 : I64 e) : Calls Tryz.prog 117 #[.pointer (some ⟨q, 0, none⟩), v, .int .i64 e] w fun r w' => r = .returned (.tuple #[]) ∧ Below w.heap.size w w' := by
  unfold I64 at he2
  obtain ⟨x1, y1, x2, y2, x3, y3, x4, y4, rfl, _⟩ := hv.open
  have he' : (e == 0) = false := by simp [he]
  go_enter Tryz.func117, Tryz.ntmps117
  go_wp2_with fail
  go_end0
  exact ⟨rfl, (Below.refl _ _).alloc (Nat.le_refl _) _⟩
set_option maxHeartbeats 3200000 in
theorem take_yes {w : World} {L X : Nat → Prop} {q b : Nat} {vt ve : Value} {g n cap : Nat} {ps : List (Value × Pt)} {I : Im} (h : ImC w L q b vt (.slice (some ⟨g, 0, none⟩) n cap) ve ps I) {v : Value} {p : Pt} (hv : PartM w v p) (hX : InP X v p) (hXo : ∀ k, X k → k < w.heap.size ∧ ¬ Own q b vt (.slice (some ⟨g, 0, none⟩) n cap) ve k)
    (hp : RightP p) (i : Nat) (hi : i < ps.length) (hid' : p.id = (i : Int) + 1) : Calls Tryz.prog 117 #[.pointer (some ⟨q, 0, none⟩), v, .int .i64 0] w fun r w' => r = .returned (.tuple #[]) ∧ ImC w' (fun k => L k ∨ X k) q b vt (.slice (some ⟨g, 0, none⟩) n cap) ve (ps.set i (v, p)) { I with parts := I.parts.set i p } ∧ Keeps (fun k => k = g) w w' := by
  have hn : n = ps.length := by obtain ⟨_, _, e, _⟩ := row_shape h.parts; cases e; rfl
  obtain ⟨x1, y1, x2, y2, x3, y3, x4, y4, rfl, _⟩ := hv.open
  have hbA : Below w.heap.size w (w.alloc (.cells #[.int .i64 p.id, .int .i64 p.leader, .int .i64 p.epoch, .int .i64 p.ver, .slice x1 p.isr.length y1, .slice x2 p.reps.length y2, .slice x3 p.add.length y3, .slice x4 p.rem.length y4, .int .i64 p.min] 54)) := (Below.refl _ _).alloc (Nat.le_refl _) _
  have HTK : Hid (∀ N, PutsR (w.alloc (.cells #[.int .i64 p.id, .int .i64 p.leader, .int .i64 p.epoch, .int .i64 p.ver, .slice x1 p.isr.length y1, .slice x2 p.reps.length y2, .slice x3 p.add.length y3, .slice x4 p.rem.length y4, .int .i64 p.min] 54)) N g (i * 9) [.int .i64 p.id, .int .i64 p.leader, .int .i64 p.epoch, .int .i64 p.ver, .slice x1 p.isr.length y1, .slice x2 p.reps.length y2, .slice x3 p.add.length y3, .slice x4 p.rem.length y4, .int .i64 p.min] → ImC N.drew (fun k => L k ∨ X k) q b vt (.slice (some ⟨g, 0, none⟩) n cap) ve (ps.set i (.agg #[.int .i64 p.id, .int .i64 p.leader, .int .i64 p.epoch, .int .i64 p.ver, .slice x1 p.isr.length y1, .slice x2 p.reps.length y2, .slice x3 p.add.length y3, .slice x4 p.rem.length y4, .int .i64 p.min], p)) { I with parts := I.parts.set i p } ∧ Keeps (fun k => k = g) w N.drew) := fun N hN =>
    ⟨((h.under hbA).take (hv.under hbA) hX (fun k hk => ⟨Nat.lt_of_lt_of_le (hXo k hk).1 hbA.size, (hXo k hk).2⟩) hp i hi hid' hN).under (Below.refl _ _).drew, ((Keeps.of_below hbA).trans (hN.keeps (S := fun k => k = g) rfl) (fun x hx => .inl hx)).trans (Keeps.of_below (S := fun k => k = g) (Below.refl _ _).drew) (fun x hx => .inl hx)⟩
  have hi7 : i < 16 := Nat.lt_of_lt_of_le hi (by have := h.plen; have := h.ok.few; omega)
  have hin : (i : Int) < (n : Int) := by omega
  have hglt : g < w.heap.size := h.lt (.inr (.inr (.inr (.inl rfl))))
  have hqlt : q < w.heap.size := h.lt (.inl rfl)
  have h1 := h.under hbA
  have c3 := h1.c3
  have hgq : ¬ q = g := fun e => h.ne_q.2.1 (by rw [e]; rfl)
  have hxi : ps[i]? = some ps[i] := List.getElem?_eq_getElem hi
  have hr := fun t ht u hu => (h1.at_ i _ hxi t ht u hu)
  have hpm := (h.each ps[i] (by simp)).1
  obtain ⟨cur, hcur⟩ := row_blk h1.parts (k := g) rfl
  have fr := fun j => frz_blk hcur j
  obtain ⟨u1, u2, u3, u4, hu, _⟩ := hpm
  rw [hu] at hr
  generalize ps[i].2 = po at *
  have hB := heap_alloc_new w (.cells #[.int .i64 p.id, .int .i64 p.leader, .int .i64 p.epoch, .int .i64 p.ver, .slice x1 p.isr.length y1, .slice x2 p.reps.length y2, .slice x3 p.add.length y3, .slice x4 p.rem.length y4, .int .i64 p.min] 54)
  have r0 := hr 0 (by decide) _ rfl
  have b0 := cell_blk hB 0 _ rfl
  have r1 := hr 1 (by decide) _ rfl
  have b1 := cell_blk hB 1 _ rfl
  have r2 := hr 2 (by decide) _ rfl
  have b2 := cell_blk hB 2 _ rfl
  have r3 := hr 3 (by decide) _ rfl
  have b3 := cell_blk hB 3 _ rfl
  have r4 := hr 4 (by decide) _ rfl
  have b4 := cell_blk hB 4 _ rfl
  have r5 := hr 5 (by decide) _ rfl
  have b5 := cell_blk hB 5 _ rfl
  have r6 := hr 6 (by decide) _ rfl
  have b6 := cell_blk hB 6 _ rfl
  have r7 := hr 7 (by decide) _ rfl
  have b7 := cell_blk hB 7 _ rfl
  have r8 := hr 8 (by decide) _ rfl
  have b8 := cell_blk hB 8 _ rfl
  rw [Nat.add_zero] at r0
  have f0 := fr (i * 9)
  have f1 := fr (i * 9 + 1)
  have f2 := fr (i * 9 + 2)
  have f3 := fr (i * 9 + 3)
  have f4 := fr (i * 9 + 4)
  have f5 := fr (i * 9 + 5)
  have f6 := fr (i * 9 + 6)
  have f7 := fr (i * 9 + 7)
  have f8 := fr (i * 9 + 8)
  have hid2 : p.id - 1 = (i : Int) := by omega
  have hw1 : IntKind.i64.wrap (p.id - 1) = (i : Int) := by rw [hid2]; exact IntWalk.i64_in _ ⟨by omega, by omega⟩
  have hne2 : ¬ g = w.heap.size := by omega
  have hne3 : ¬ w.heap.size = g := by omega
  clear hr fr hu hxi h h1 hv hX hXo hcur hid' hid2 hB hbA hn hi hqlt hglt
  go_enter Tryz.func117, Tryz.ntmps117
  go_upto_region 2 with fail
  generalize w.alloc (.cells #[.int .i64 p.id, .int .i64 p.leader, .int .i64 p.epoch, .int .i64 p.ver, .slice x1 p.isr.length y1, .slice x2 p.reps.length y2, .slice x3 p.add.length y3, .slice x4 p.rem.length y4, .int .i64 p.min] 54) = W at *
  obtain ⟨x, hx⟩ : ∃ x, x = w.heap.size := ⟨_, rfl⟩
  rw [← hx] at b0 b1 b2 b3 b4 b5 b6 b7 b8 hne2 hne3 ⊢
  clear hx
  have HEND := hid (HTK.out (puts W g (i * 9) [.int .i64 p.id, .int .i64 p.leader, .int .i64 p.epoch, .int .i64 p.ver, .slice x1 p.isr.length y1, .slice x2 p.reps.length y2, .slice x3 p.add.length y3, .slice x4 p.rem.length y4, .int .i64 p.min]) (puts_all [.int .i64 p.id, .int .i64 p.leader, .int .i64 p.epoch, .int .i64 p.ver, .slice x1 p.isr.length y1, .slice x2 p.reps.length y2, .slice x3 p.add.length y3, .slice x4 p.rem.length y4, .int .i64 p.min] W g (i * 9)))
  go_region_with (fail)
  all_goals
    go_wp2_with fail
    go_end0
    exact ⟨rfl, HEND.out⟩
end Go.Proofs.YtcffomhcmilcpaaGreat

