/- What Replace and Append do. -/
import Derived.Test.YtpdghpmfacaglaaKeep
import Derived.Lib.AppendStr
namespace Go.Proofs.Ytpdghpmfacaglaa
open Go.RowKit Go.Maps
open Go.WideMaps (keyOf_string_mk)
set_option maxRecDepth 100000
set_option linter.unusedSimpArgs false
set_option linter.unusedVariables false

theorem admit_ok {w : World} {S : Nat → Prop} {a size : Nat} {mo : Option Nat} {fs : List (List UInt8 × FileE)} (h : DiskM w S a size mo fs) (n : ByteArray) (hn : n.size ≤ maxLen) (hb : nameB n = true) (hadm : (flook fs n.data.toList).isSome = true ∨ fs.length < 256) :
    Calls Try.prog 44 #[.pointer (some ⟨a, 0, none⟩), .string n] w fun e w' => e = .returned (.int .i64 0) ∧ Below w.heap.size w w' := by
  cases hs : (flook fs n.data.toList).isSome with
  | true => exact admit_there h n hn hb hs
  | false =>
    rcases hadm with h1 | h1
    · rw [hs] at h1; cases h1
    · have := admit_new h n hn hb hs
      rw [if_pos h1] at this
      exact this

theorem fdel_none {fs : List (List UInt8 × FileE)} {n : List UInt8} (h : (flook fs n).isSome = false) : fdel fs n = fs := by
  refine fdel_of_ne n fs (fun p hp e => ?_)
  rw [flook_isSome_iff.2 ⟨p, hp, e⟩] at h
  cases h

theorem few_fput {fs : List (List UInt8 × FileE)} {n : List UInt8} (f : FileE) (hadm : (flook fs n).isSome = true ∨ fs.length < 256) (hfew : fs.length ≤ 256) : (fput fs n f).length ≤ 256 := by
  rw [len_fput]
  rcases hadm with h | h
  · have := len_fdel_there h; omega
  · have := len_fdel_le fs n; omega

theorem lenAt_eq (fs : List (List UInt8 × FileE)) (n : List UInt8) : lenAt fs n = (bsAt fs n).length := by
  unfold lenAt bsAt; cases flook fs n <;> rfl

/-- The bytes of a converted string. -/
theorem bytesAt_conv (W : World) (b : ByteArray) (hb : b.size ≤ 16777216) (S : Nat → Prop) (hS : S W.heap.size) :
    BytesAt (Lib.bytesWorld W 5 b) S (.slice (some ⟨W.heap.size, 0, none⟩) b.size (grownCap W b.size 0 5)) b.data.toList := by
  have hge := grownCap_ge W b.size 0 5
  have hcm := grownCap_le_maxLen W b.size 0 5 (by unfold maxLen; omega)
  have hsz : (Lib.bytesCells W 5 b).size = grownCap W b.size 0 5 := by
    have e : b.data.size = b.size := rfl
    simp [Lib.bytesCells, e]; omega
  refine .inr ⟨W.heap.size, grownCap W b.size 0 5, Lib.bytesCells W 5 b, (grownCap W b.size 0 5, grownCap W b.size 0 5 + 1), rfl, hS, ?_, hge, hcm, hsz, .inr rfl, ?_⟩
  · rw [Lib.bytesWorld_at_new, hsz]
  · have e : b.data.toList.length = (b.data.map fun c => Value.int .u8 (c.toNat : Int)).toList.length := by simp
    simp only [Lib.bytesCells, Array.toList_append]
    rw [e, List.take_left]
    simp [u8s]

theorem conv_below (W : World) (b : ByteArray) : Below W.heap.size W (Lib.bytesWorld W 5 b) := by
  refine ⟨rfl, rfl, rfl, by rw [Lib.bytesWorld_size]; omega, fun k hk => Lib.bytesWorld_at_old W 5 b k hk⟩

set_option maxHeartbeats 800000 in
theorem replace_ok {w : World} {S : Nat → Prop} {a size : Nat} {mo : Option Nat} {fs : List (List UInt8 × FileE)} (h : DiskM w S a size mo fs) (n b : ByteArray) (hn : n.size ≤ maxLen) (hname : nameB n = true)
    (hadm : (flook fs n.data.toList).isSome = true ∨ fs.length < 256) (hfit : b.size ≤ size - total fs + (bsAt fs n.data.toList).length) :
    Calls Try.prog 22 #[.pointer (some ⟨a, 0, none⟩), .string n, .string b] w fun e w' => e = .returned (.int .i64 0) ∧ ∃ f : FileE, f.bs = b.data.toList ∧ f.safe = b.size ∧ After S w w' a size (fput fs n.data.toList f) := by
  have hbsz : (b.data.toList).length = b.size := rfl
  have hsm := h.small
  have hroom := h.room
  have htl := total_fdel_le fs n.data.toList
  rw [lenAt_eq] at htl
  have HA := admit_ok h n hn hname hadm
  have HF : Hid (∀ W, Below w.heap.size w W → Calls Try.prog 21 #[.pointer (some ⟨a, 0, none⟩)] W fun e w' => e = .returned (.int .i64 ((size - total fs : Nat) : Int)) ∧ Below w.heap.size w w') := fun W hW =>
    (free_any (h.under hW)).mono (fun e w' ⟨h1, h2⟩ => ⟨h1, hW.trans (h2.mono hW.size)⟩)
  have HZ : Hid (∀ W, Below w.heap.size w W → Calls Try.prog 25 #[.pointer (some ⟨a, 0, none⟩), .string n] W fun e w' => e = .returned (.int .i64 ((bsAt fs n.data.toList).length : Int)) ∧ w' = W) := fun W hW => size_any (h.under hW) n hn
  have HP : Hid (∀ W, Below w.heap.size w W → Calls Try.prog 42 #[.pointer (some ⟨a, 0, none⟩), .string n, .agg #[.slice (some ⟨W.heap.size, 0, none⟩) b.size (grownCap W b.size 0 5), .int .i64 (b.size : Int)]] (Lib.bytesWorld W 5 b)
      fun e w' => e = .returned (.tuple #[]) ∧ ∃ f : FileE, f.bs = b.data.toList ∧ f.safe = b.size ∧ After S w w' a size (fput fs n.data.toList f)) := by
    intro W hW
    have hb1 := conv_below W b
    have hW1 : Below w.heap.size w (Lib.bytesWorld W 5 b) := hW.trans (hb1.mono hW.size)
    have hd : DiskM (Lib.bytesWorld W 5 b) (fun k => S k ∨ k = W.heap.size) a size mo fs := (h.under hW1).more (fun k hk => .inl hk) (fun k hk => by
      have hs := Lib.bytesWorld_size W 5 b
      have := hW.size
      rcases hk with hk | rfl
      · have := h.below k hk; omega
      · omega)
    have := put_any hd n hn ⟨.slice (some ⟨W.heap.size, 0, none⟩) b.size (grownCap W b.size 0 5), b.data.toList, b.size⟩ (bytesAt_conv W b (by omega) _ (.inr rfl)) (Nat.le_refl _)
      (fun p hp _ k hk hq => by
        have h1 := ((h.owns p hp).1.lt k hq).2
        have h2 := hW.size
        simp [Value.ownBlock] at hk
        omega) (by rw [total_fput]; simp only; omega) (few_fput _ hadm h.few)
    refine this.mono (fun e w' ⟨h1, h2⟩ => ⟨h1, ⟨.slice (some ⟨W.heap.size, 0, none⟩) b.size (grownCap W b.size 0 5), b.data.toList, b.size⟩, rfl, rfl, ?_⟩)
    refine After.then (Keeps.of_below hW1) (fun k hk => ?_) (fun k hk => .inl hk) h2
    rcases hk with hk | rfl
    · exact .inl hk
    · exact .inr hW.size
  have hcv := fun W => Lib.run_convert_string_bytes (P := Try.prog) W 9 63 5 b Try.underlying9 Try.underlying63 Try.underlying5
  have hlt : ¬ (((size - total fs : Nat) : Int) + ((bsAt fs n.data.toList).length : Int) < (b.size : Int)) := by omega
  have HA2 : Hid (Calls Try.prog 44 #[.pointer (some ⟨a, 0, none⟩), .string n] w fun e w' => e = .returned (.int .i64 0) ∧ Below w.heap.size w w') := HA
  have hl1 : (bsAt fs n.data.toList).length ≤ 16777216 := by omega
  have hl2 : size - total fs ≤ 16777216 := by omega
  clear h HA
  go_enter Try.func22, Try.ntmps22
  go_wp2_with (go_at_call 44; refine HA2.out.mono ?_; rintro e w1 ⟨rfl, hb1⟩)
  go_wp2_with (go_at_call 21; refine (HF.out _ hb1).mono ?_; rintro e w2 ⟨rfl, hb2⟩)
  go_wp2_with (go_at_call 25; refine (HZ.out _ hb2).mono ?_; rintro e w3 ⟨rfl, rfl⟩)
  go_wp2_with (go_at_call 42; refine (HP.out _ hb2).mono ?_; rintro e w4 ⟨rfl, hA⟩)
  go_ret
  exact ⟨rfl, hA⟩

set_option maxHeartbeats 400000 in
theorem replace_full {w : World} {S : Nat → Prop} {a size : Nat} {mo : Option Nat} {fs : List (List UInt8 × FileE)} (h : DiskM w S a size mo fs) (n b : ByteArray) (hn : n.size ≤ maxLen) (hb : b.size ≤ maxLen) (hname : nameB n = true)
    (hadm : (flook fs n.data.toList).isSome = true ∨ fs.length < 256) (hfit : size - total fs + (bsAt fs n.data.toList).length < b.size) :
    Calls Try.prog 22 #[.pointer (some ⟨a, 0, none⟩), .string n, .string b] w fun e w' => e = .returned (.int .i64 7) ∧ Below w.heap.size w w' := by
  unfold maxLen at hb
  have hsm := h.small
  have hroom := h.room
  have htl := total_fdel_le fs n.data.toList
  rw [lenAt_eq] at htl
  have HA : Hid (Calls Try.prog 44 #[.pointer (some ⟨a, 0, none⟩), .string n] w fun e w' => e = .returned (.int .i64 0) ∧ Below w.heap.size w w') := admit_ok h n hn hname hadm
  have HF : Hid (∀ W, Below w.heap.size w W → Calls Try.prog 21 #[.pointer (some ⟨a, 0, none⟩)] W fun e w' => e = .returned (.int .i64 ((size - total fs : Nat) : Int)) ∧ Below w.heap.size w w') := fun W hW =>
    (free_any (h.under hW)).mono (fun e w' ⟨h1, h2⟩ => ⟨h1, hW.trans (h2.mono hW.size)⟩)
  have HZ : Hid (∀ W, Below w.heap.size w W → Calls Try.prog 25 #[.pointer (some ⟨a, 0, none⟩), .string n] W fun e w' => e = .returned (.int .i64 ((bsAt fs n.data.toList).length : Int)) ∧ w' = W) := fun W hW => size_any (h.under hW) n hn
  have hlt : (((size - total fs : Nat) : Int) + ((bsAt fs n.data.toList).length : Int) < (b.size : Int)) := by omega
  have hl1 : (bsAt fs n.data.toList).length ≤ 16777216 := by omega
  have hl2 : size - total fs ≤ 16777216 := by omega
  clear h
  go_enter Try.func22, Try.ntmps22
  go_wp2_with (go_at_call 44; refine HA.out.mono ?_; rintro e w1 ⟨rfl, hb1⟩)
  go_wp2_with (go_at_call 21; refine (HF.out _ hb1).mono ?_; rintro e w2 ⟨rfl, hb2⟩)
  go_wp2_with (go_at_call 25; refine (HZ.out _ hb2).mono ?_; rintro e w3 ⟨rfl, rfl⟩)
  go_ret
  exact ⟨rfl, hb2⟩

theorem storeCells_mark (g o : Nat) (mk : Nat × Nat) : ∀ (vs : List Value) (i : Nat) (cur : Array Value) (w : World), w.heap[g]? = some (.cells cur 5 mk) → o + i + vs.length ≤ cur.size → (mk = (0, 0) ∨ cur.size ≤ mk.1) → (∀ v ∈ vs, v.oneCell' = true) →
    (storeCells ⟨g, o, none⟩ vs i).run Try.prog w = .ok () (w.setRow g (cur.toList.take (o + i) ++ vs ++ cur.toList.drop (o + i + vs.length)).toArray)
  | [], i, cur, w, hg, _, _, _ => by
    simp only [storeCells, List.append_nil, List.length_nil, Nat.add_zero, List.take_append_drop, Array.toArray_toList]
    rw [setRow_self w g cur 5 mk hg]
    rfl
  | v :: rest, i, cur, w, hg, hl, hm, h1 => by
    simp only [List.length_cons] at hl
    have hi : o + i < cur.size := by omega
    have hadd : (⟨g, o, none⟩ : Addr).add i = ⟨g, o + i, none⟩ := by unfold Addr.add; split <;> simp_all
    have hcell : w.cell? ⟨g, o + i, none⟩ = some cur[o + i] := by simp [World.cell?, hg, hi]
    have hfro : w.frozen? ⟨g, o + i, none⟩ = false := by
      obtain ⟨lo, hi'⟩ := mk
      simp only [World.frozen?, hg]
      rcases hm with hm | hm
      · cases hm; simp
      · simp only at hm
        have : ¬ lo ≤ o + i := by omega
        simp [this]
    have hst : (store ((⟨g, o, none⟩ : Addr).add i) v).run Try.prog w = .ok () (w.setRow g (cur.setIfInBounds (o + i) v)) := by
      rw [hadd, run_store Try.prog w _ v _ (h1 v (by simp)), hcell]
      simp [hfro, setCell_eq_setRow w g (o + i) cur 5 mk v hg]
    have ih := storeCells_mark g o mk rest (i + 1) (cur.setIfInBounds (o + i) v) (w.setRow g (cur.setIfInBounds (o + i) v)) (setRow_heap w g cur _ 5 _ hg) (by simp; omega) (by simpa using hm) (fun x hx => h1 x (by simp [hx]))
    simp only [storeCells, Sem.run_bind, hst, Result.andThen_ok, ih, setRow_setRow]
    congr 3
    have e := list_seg_step cur.toList (o + i) v rest (by simp; omega)
    simpa [Array.toList_setIfInBounds, Nat.add_assoc] using e

theorem append_room (w : World) (ty : TypeId) (g sLen sCap : Nat) (cur : Array Value) (mk : Nat × Nat) (hg : w.heap[g]? = some (.cells cur 5 mk)) (hm : mk = (0, 0) ∨ cur.size ≤ mk.1) (s : ByteArray) (hroom : sLen + s.size ≤ sCap) (hfit : sLen + s.size ≤ cur.size) :
    (Builtin.append_ #[63, 9] ty #[.slice (some ⟨g, 0, none⟩) sLen sCap, .string s]).run Try.prog w =
      .ok (.slice (some ⟨g, 0, none⟩) (sLen + s.size) sCap) (w.setRow g (cur.toList.take sLen ++ Lib.strCells s ++ cur.toList.drop (sLen + s.size)).toArray) := by
  obtain ⟨i, hi, hz0, hz1, hz2⟩ := info_parts info5
  have hf := Lib.run_firstCells_string (P := Try.prog) w 1 s
  have hst := storeCells_mark g sLen mk (Lib.strCells s) 0 cur w hg (by simpa [Lib.strCells_length] using hfit) hm (Lib.strCells_oneCell s)
  simp only [Nat.add_zero, Lib.strCells_length] at hst
  simp [Builtin.append_, run_underlying Try.underlying63, run_underlying Try.underlying9, sizeOf, typeInfo, hi, hz1, Builtin.lenOf, hroom, hf, Addr.add_lit, hst]

theorem strCells_u8s (s : ByteArray) : Lib.strCells s = u8s s.data.toList := rfl

/-- A string's bytes behind a file's bytes. -/
theorem BytesAt.append {w : World} {S : Nat → Prop} {sv : Value} {bs : List UInt8} (h : BytesAt w S sv bs) (hS : ∀ k, S k → k < w.heap.size) (s : ByteArray) (hlen : bs.length + s.size ≤ 16777216) (ty : TypeId) :
    ∃ v' w', (Builtin.append_ #[63, 9] ty #[sv, .string s]).run Try.prog w = .ok v' w' ∧ BytesAt w' (fun k => S k ∨ (w.heap.size ≤ k ∧ k < w'.heap.size)) v' (bs ++ s.data.toList) ∧ BytesAt w' S sv bs ∧ w.grownBy w' sv.ownBlock ∧
      (v'.ownBlock = sv.ownBlock ∨ ∀ k, v'.ownBlock = some k → w.heap.size ≤ k) := by
  obtain ⟨i, hi, hz0, hz1, hz2⟩ := info_parts info5
  have hsz : s.data.toList.length = s.size := rfl
  rcases h with ⟨rfl, rfl⟩ | ⟨g, cap, cur, mk, rfl, hSg, hg, hn, hcm, hcs, hmk, ht⟩
  · obtain ⟨v', w', hr, hown, hgr, hnil⟩ := Lib.run_append_own_string (P := Try.prog) w w.heap.size 63 9 ty 5 i Try.underlying63 Try.underlying9 hi hz0 hz1 hz2 (.slice none 0 0) 0 [] (World.ownsRow_nil _ _ _ _) s (by unfold maxLen; omega) (by omega) (Nat.le_refl _)
    rw [Nat.zero_add, List.nil_append] at hown
    refine ⟨v', w', hr, ?_, .inl ⟨rfl, rfl⟩, hgr, .inr (fun k hk => (hown.lt k hk).1)⟩
    rw [List.nil_append]
    exact ownsRow_bytes hown (fun k h1 h2 => .inr ⟨h1, h2⟩)
  · have hmk' : mk = (0, 0) ∨ cur.size ≤ mk.1 := by
      rcases hmk with h | h
      · exact .inl h
      · right; rw [h]; simp; omega
    by_cases hroom : bs.length + s.size ≤ cap
    · have hr := append_room w ty g bs.length cap cur mk hg hmk' s hroom (by omega)
      have hnew := setRow_heap w g cur (cur.toList.take bs.length ++ Lib.strCells s ++ cur.toList.drop (bs.length + s.size)).toArray 5 _ hg
      have hsize : (cur.toList.take bs.length ++ Lib.strCells s ++ cur.toList.drop (bs.length + s.size)).toArray.size = cap := by
        simp only [List.size_toArray, List.length_append, List.length_take, List.length_drop, Array.length_toList, Lib.strCells_length]
        omega
      have htk : ∀ m, m = bs.length + s.size → ((cur.toList.take bs.length ++ Lib.strCells s ++ cur.toList.drop (bs.length + s.size)).toArray).toList.take m = u8s (bs ++ s.data.toList) := by
        intro m hm
        have e1 : (cur.toList.take bs.length ++ Lib.strCells s).length = m := by rw [ht, List.length_append, u8s_length, Lib.strCells_length, hm]
        rw [List.toList_toArray, ← e1, List.take_left, ht, strCells_u8s]
        simp [u8s]
      refine ⟨_, _, hr, .inr ⟨g, cap, _, mk, by rw [List.length_append, hsz], .inl hSg, hnew, by rw [List.length_append, hsz]; exact hroom, hcm, hsize, hmk, ?_⟩, .inr ⟨g, cap, _, mk, rfl, hSg, hnew, hn, hcm, hsize, hmk, ?_⟩,
        ⟨rfl, rfl, rfl, by simp, fun k _ hk => setRow_other w g k _ (fun e => hk (by simp [Value.ownBlock, e]))⟩, .inl rfl⟩
      · exact htk _ (by rw [List.length_append, hsz])
      · rw [List.toList_toArray, List.append_assoc, List.take_append_of_le_length (by rw [ht, u8s_length]; exact Nat.le_refl _), ht, List.take_of_length_le (by rw [u8s_length]; exact Nat.le_refl _)]
    · have hB : BytesAt w S (.slice (some ⟨g, 0, none⟩) bs.length cap) bs := .inr ⟨g, cap, cur, mk, rfl, hSg, hg, hn, hcm, hcs, hmk, ht⟩
      have holds : ∀ j u, (u8s bs)[j]? = some u → w.cell? ((⟨g, 0, none⟩ : Addr).add j) = some u := by
        intro j u hu
        have hadd : (⟨g, 0, none⟩ : Addr).add j = ⟨g, j, none⟩ := by unfold Addr.add; split <;> simp_all
        rcases Nat.lt_or_ge j bs.length with hj | hj
        · rw [hadd, hB.cell j hj, ← hu]; simp [u8s, hj]
        · rw [List.getElem?_eq_none (by rw [u8s_length]; exact hj)] at hu; cases hu
      have hr := Lib.run_append_grow_string (P := Try.prog) w 63 9 ty 5 i (.int .u8 0) Try.underlying63 Try.underlying9 hi hz0 ⟨g, 0, none⟩ bs.length cap (u8s bs) (by rw [hz1, u8s_length, Nat.mul_one]) holds s (by omega) (by omega) (by rw [hz2]; exact growslice_fits (by omega) (by omega))
      have hge := grownCap_ge w (bs.length + s.size) cap 5
      have hcm2 := grownCap_le_maxLen w (bs.length + s.size) cap 5 (by unfold maxLen; omega)
      have hgl := (Array.getElem?_eq_some_iff.1 hg).1
      have hold : ∀ o k, k < w.heap.size → (w.drew.alloc o).heap[k]? = w.heap[k]? := fun o k hk => Below.heap_alloc w.drew o k hk
      refine ⟨_, _, hr, .inr ⟨w.heap.size, grownCap w (bs.length + s.size) cap 5, _, (0, 0), by rw [List.length_append, hsz], .inr ⟨Nat.le_refl _, by simp⟩, heap_alloc_new w.drew _, by rw [List.length_append, hsz]; exact hge, hcm2, ?_, .inl rfl, ?_⟩,
        hB.kept (fun _ hk => hk) (fun k hk => hold _ k (hB.lt k hk).2), ⟨rfl, rfl, rfl, by simp, fun k hk _ => hold _ k hk⟩, .inr (fun k hk => by simp [Value.ownBlock] at hk; omega)⟩
      · have hz3 : (Value.int IntKind.u8 0).cells.size = 1 := rfl
        simp only [Array.size_append, List.size_toArray, size_zeroCells, hz3, u8s_length, Lib.strCells_length]
        omega
      · have e1 : (bs ++ s.data.toList).length = (u8s bs ++ Lib.strCells s).length := by rw [List.length_append, List.length_append, u8s_length, Lib.strCells_length, hsz]
        simp only [Array.toList_append, List.toList_toArray]
        rw [e1, List.take_left, strCells_u8s]
        simp [u8s]
end Go.Proofs.Ytpdghpmfacaglaa
