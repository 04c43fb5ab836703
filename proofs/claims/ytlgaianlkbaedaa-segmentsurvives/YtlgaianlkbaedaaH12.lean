/- What Replace and Append do. -/
import Derived.Test.YtlgaianlkbaedaaH11
import Derived.Lib.AppendStr
import Derived.Deep.RegionLaw
import Derived.Deep.DeepFit
namespace Go.Proofs.Ytlgaianlkbaedaa
open Go.RowKit Go.Maps
open Go.WideMaps (keyOf_string_mk)
set_option maxRecDepth 100000
set_option linter.unusedSimpArgs false
set_option linter.unusedVariables false

theorem admit_ok {w : World} {S : Nat → Prop} {a size : Nat} {mo : Option Nat} {fs : List (List UInt8 × FileE)} (h : DiskM w S a size mo fs) (n : ByteArray) (hn : n.size ≤ maxLen) (hb : nameB n = true) (hadm : (flook fs n.data.toList).isSome = true ∨ fs.length < 256) :
    Calls Try.prog 48 #[.pointer (some ⟨a, 0, none⟩), .string n] w fun e w' => e = .returned (.int .i64 0) ∧ Below w.heap.size w w' := by
  cases hs : (flook fs n.data.toList).isSome with
  | true => exact admit_there h n hn hb hs
  | false =>
    rcases hadm with h1 | h1
    · rw [hs] at h1; cases h1
    · have := admit_new h n hn hb hs
      rw [if_pos h1] at this
      exact this

theorem fdel_none {fs : List (List UInt8 × FileE)} {n : List UInt8} (h : (flook fs n).isSome = false) : fdel fs n = fs := by
  refine fdel_of_ne n fs (fun p hp e => ?_)
  rw [flook_isSome_iff.2 ⟨p, hp, e⟩] at h
  cases h

theorem few_fput {fs : List (List UInt8 × FileE)} {n : List UInt8} (f : FileE) (hadm : (flook fs n).isSome = true ∨ fs.length < 256) (hfew : fs.length ≤ 256) : (fput fs n f).length ≤ 256 := by
  rw [len_fput]
  rcases hadm with h | h
  · have := len_fdel_there h; omega
  · have := len_fdel_le fs n; omega

theorem lenAt_eq (fs : List (List UInt8 × FileE)) (n : List UInt8) : lenAt fs n = (bsAt fs n).length := by
  unfold lenAt bsAt; cases flook fs n <;> rfl

/-- The bytes of a converted string. -/
theorem bytesAt_conv (W : World) (b : ByteArray) (hb : b.size ≤ 16777216) (S : Nat → Prop) (hS : S W.heap.size) :
    BytesAt (Lib.bytesWorld W 5 b) S (.slice (some ⟨W.heap.size, 0, none⟩) b.size (grownCap W b.size 0 5)) b.data.toList := by
  have hge := grownCap_ge W b.size 0 5
  have hcm := grownCap_le_maxLen W b.size 0 5 (by unfold maxLen; omega)
  have hsz : (Lib.bytesCells W 5 b).size = grownCap W b.size 0 5 := by
    have e : b.data.size = b.size := rfl
    simp [Lib.bytesCells, e]; omega
  refine .inr ⟨W.heap.size, grownCap W b.size 0 5, Lib.bytesCells W 5 b, (grownCap W b.size 0 5, grownCap W b.size 0 5 + 1), rfl, hS, ?_, hge, hcm, hsz, .inr rfl, ?_⟩
  · rw [Lib.bytesWorld_at_new, hsz]
  · have e : b.data.toList.length = (b.data.map fun c => Value.int .u8 (c.toNat : Int)).toList.length := by simp
    simp only [Lib.bytesCells, Array.toList_append]
    rw [e, List.take_left]
    simp [u8s]

theorem conv_below (W : World) (b : ByteArray) : Below W.heap.size W (Lib.bytesWorld W 5 b) := by
  refine ⟨rfl, rfl, rfl, by rw [Lib.bytesWorld_size]; omega, fun k hk => Lib.bytesWorld_at_old W 5 b k hk⟩

theorem storeCells_mark (g o : Nat) (mk : Nat × Nat) : ∀ (vs : List Value) (i : Nat) (cur : Array Value) (w : World), w.heap[g]? = some (.cells cur 5 mk) → o + i + vs.length ≤ cur.size → (mk = (0, 0) ∨ cur.size ≤ mk.1) → (∀ v ∈ vs, v.oneCell' = true) →
    (storeCells ⟨g, o, none⟩ vs i).run Try.prog w = .ok () (w.setRow g (cur.toList.take (o + i) ++ vs ++ cur.toList.drop (o + i + vs.length)).toArray)
  | [], i, cur, w, hg, _, _, _ => by
    simp only [storeCells, List.append_nil, List.length_nil, Nat.add_zero, List.take_append_drop, Array.toArray_toList]
    rw [setRow_self w g cur 5 mk hg]
    rfl
  | v :: rest, i, cur, w, hg, hl, hm, h1 => by
    simp only [List.length_cons] at hl
    have hi : o + i < cur.size := by omega
    have hadd : (⟨g, o, none⟩ : Addr).add i = ⟨g, o + i, none⟩ := by unfold Addr.add; split <;> simp_all
    have hcell : w.cell? ⟨g, o + i, none⟩ = some cur[o + i] := by simp [World.cell?, hg, hi]
    have hfro : w.frozen? ⟨g, o + i, none⟩ = false := by
      obtain ⟨lo, hi'⟩ := mk
      simp only [World.frozen?, hg]
      rcases hm with hm | hm
      · cases hm; simp
      · simp only at hm
        have : ¬ lo ≤ o + i := by omega
        simp [this]
    have hst : (store ((⟨g, o, none⟩ : Addr).add i) v).run Try.prog w = .ok () (w.setRow g (cur.setIfInBounds (o + i) v)) := by
      rw [hadd, run_store Try.prog w _ v _ (h1 v (by simp)), hcell]
      simp [hfro, setCell_eq_setRow w g (o + i) cur 5 mk v hg]
    have ih := storeCells_mark g o mk rest (i + 1) (cur.setIfInBounds (o + i) v) (w.setRow g (cur.setIfInBounds (o + i) v)) (setRow_heap w g cur _ 5 _ hg) (by simp; omega) (by simpa using hm) (fun x hx => h1 x (by simp [hx]))
    simp only [storeCells, Sem.run_bind, hst, Result.andThen_ok, ih, setRow_setRow]
    congr 3
    have e := list_seg_step cur.toList (o + i) v rest (by simp; omega)
    simpa [Array.toList_setIfInBounds, Nat.add_assoc] using e

theorem append_room (w : World) (ty : TypeId) (g sLen sCap : Nat) (cur : Array Value) (mk : Nat × Nat) (hg : w.heap[g]? = some (.cells cur 5 mk)) (hm : mk = (0, 0) ∨ cur.size ≤ mk.1) (s : ByteArray) (hroom : sLen + s.size ≤ sCap) (hfit : sLen + s.size ≤ cur.size) :
    (Builtin.append_ #[75, 9] ty #[.slice (some ⟨g, 0, none⟩) sLen sCap, .string s]).run Try.prog w =
      .ok (.slice (some ⟨g, 0, none⟩) (sLen + s.size) sCap) (w.setRow g (cur.toList.take sLen ++ Lib.strCells s ++ cur.toList.drop (sLen + s.size)).toArray) := by
  obtain ⟨i, hi, hz0, hz1, hz2⟩ := info_parts dinfo5
  have hf := Lib.run_firstCells_string (P := Try.prog) w 1 s
  have hst := storeCells_mark g sLen mk (Lib.strCells s) 0 cur w hg (by simpa [Lib.strCells_length] using hfit) hm (Lib.strCells_oneCell s)
  simp only [Nat.add_zero, Lib.strCells_length] at hst
  simp [Builtin.append_, run_underlying Try.underlying75, run_underlying Try.underlying9, sizeOf, typeInfo, hi, hz1, Builtin.lenOf, hroom, hf, Addr.add_lit, hst]

theorem strCells_u8s (s : ByteArray) : Lib.strCells s = u8s s.data.toList := rfl

/-- A string's bytes behind a file's bytes. -/
theorem BytesAt.append {w : World} {S : Nat → Prop} {sv : Value} {bs : List UInt8} (h : BytesAt w S sv bs) (hS : ∀ k, S k → k < w.heap.size) (s : ByteArray) (hlen : bs.length + s.size ≤ 16777216) (ty : TypeId) :
    ∃ v' w', (Builtin.append_ #[75, 9] ty #[sv, .string s]).run Try.prog w = .ok v' w' ∧ BytesAt w' (fun k => S k ∨ (w.heap.size ≤ k ∧ k < w'.heap.size)) v' (bs ++ s.data.toList) ∧ BytesAt w' S sv bs ∧ w.grownBy w' sv.ownBlock ∧
      (v'.ownBlock = sv.ownBlock ∨ ∀ k, v'.ownBlock = some k → w.heap.size ≤ k) := by
  obtain ⟨i, hi, hz0, hz1, hz2⟩ := info_parts dinfo5
  have hsz : s.data.toList.length = s.size := rfl
  rcases h with ⟨rfl, rfl⟩ | ⟨g, cap, cur, mk, rfl, hSg, hg, hn, hcm, hcs, hmk, ht⟩
  · obtain ⟨v', w', hr, hown, hgr, hnil⟩ := Lib.run_append_own_string (P := Try.prog) w w.heap.size 75 9 ty 5 i Try.underlying75 Try.underlying9 hi hz0 hz1 hz2 (.slice none 0 0) 0 [] (World.ownsRow_nil _ _ _ _) s (by unfold maxLen; omega) (by omega) (Nat.le_refl _)
    rw [Nat.zero_add, List.nil_append] at hown
    refine ⟨v', w', hr, ?_, .inl ⟨rfl, rfl⟩, hgr, .inr (fun k hk => (hown.lt k hk).1)⟩
    rw [List.nil_append]
    exact ownsRow_bytes hown (fun k h1 h2 => .inr ⟨h1, h2⟩)
  · have hmk' : mk = (0, 0) ∨ cur.size ≤ mk.1 := by
      rcases hmk with h | h
      · exact .inl h
      · right; rw [h]; simp; omega
    by_cases hroom : bs.length + s.size ≤ cap
    · have hr := append_room w ty g bs.length cap cur mk hg hmk' s hroom (by omega)
      have hnew := setRow_heap w g cur (cur.toList.take bs.length ++ Lib.strCells s ++ cur.toList.drop (bs.length + s.size)).toArray 5 _ hg
      have hsize : (cur.toList.take bs.length ++ Lib.strCells s ++ cur.toList.drop (bs.length + s.size)).toArray.size = cap := by
        simp only [List.size_toArray, List.length_append, List.length_take, List.length_drop, Array.length_toList, Lib.strCells_length]
        omega
      have htk : ∀ m, m = bs.length + s.size → ((cur.toList.take bs.length ++ Lib.strCells s ++ cur.toList.drop (bs.length + s.size)).toArray).toList.take m = u8s (bs ++ s.data.toList) := by
        intro m hm
        have e1 : (cur.toList.take bs.length ++ Lib.strCells s).length = m := by rw [ht, List.length_append, u8s_length, Lib.strCells_length, hm]
        rw [List.toList_toArray, ← e1, List.take_left, ht, strCells_u8s]
        simp [u8s]
      refine ⟨_, _, hr, .inr ⟨g, cap, _, mk, by rw [List.length_append, hsz], .inl hSg, hnew, by rw [List.length_append, hsz]; exact hroom, hcm, hsize, hmk, ?_⟩, .inr ⟨g, cap, _, mk, rfl, hSg, hnew, hn, hcm, hsize, hmk, ?_⟩,
        ⟨rfl, rfl, rfl, by simp, fun k _ hk => setRow_other w g k _ (fun e => hk (by simp [Value.ownBlock, e]))⟩, .inl rfl⟩
      · exact htk _ (by rw [List.length_append, hsz])
      · rw [List.toList_toArray, List.append_assoc, List.take_append_of_le_length (by rw [ht, u8s_length]; exact Nat.le_refl _), ht, List.take_of_length_le (by rw [u8s_length]; exact Nat.le_refl _)]
    · have hB : BytesAt w S (.slice (some ⟨g, 0, none⟩) bs.length cap) bs := .inr ⟨g, cap, cur, mk, rfl, hSg, hg, hn, hcm, hcs, hmk, ht⟩
      have holds : ∀ j u, (u8s bs)[j]? = some u → w.cell? ((⟨g, 0, none⟩ : Addr).add j) = some u := by
        intro j u hu
        have hadd : (⟨g, 0, none⟩ : Addr).add j = ⟨g, j, none⟩ := by unfold Addr.add; split <;> simp_all
        rcases Nat.lt_or_ge j bs.length with hj | hj
        · rw [hadd, hB.cell j hj, ← hu]; simp [u8s, hj]
        · rw [List.getElem?_eq_none (by rw [u8s_length]; exact hj)] at hu; cases hu
      have hr := Lib.run_append_grow_string (P := Try.prog) w 75 9 ty 5 i (.int .u8 0) Try.underlying75 Try.underlying9 hi hz0 ⟨g, 0, none⟩ bs.length cap (u8s bs) (by rw [hz1, u8s_length, Nat.mul_one]) holds s (by omega) (by omega) (by rw [hz2]; exact growslice_fits (by omega) (by omega))
      have hge := grownCap_ge w (bs.length + s.size) cap 5
      have hcm2 := grownCap_le_maxLen w (bs.length + s.size) cap 5 (by unfold maxLen; omega)
      have hgl := (Array.getElem?_eq_some_iff.1 hg).1
      have hold : ∀ o k, k < w.heap.size → (w.drew.alloc o).heap[k]? = w.heap[k]? := fun o k hk => Below.heap_alloc w.drew o k hk
      refine ⟨_, _, hr, .inr ⟨w.heap.size, grownCap w (bs.length + s.size) cap 5, _, (0, 0), by rw [List.length_append, hsz], .inr ⟨Nat.le_refl _, by simp⟩, heap_alloc_new w.drew _, by rw [List.length_append, hsz]; exact hge, hcm2, ?_, .inl rfl, ?_⟩,
        hB.kept (fun _ hk => hk) (fun k hk => hold _ k (hB.lt k hk).2), ⟨rfl, rfl, rfl, by simp, fun k hk _ => hold _ k hk⟩, .inr (fun k hk => by simp [Value.ownBlock] at hk; omega)⟩
      · have hz3 : (Value.int IntKind.u8 0).cells.size = 1 := rfl
        simp only [Array.size_append, List.size_toArray, size_zeroCells, hz3, u8s_length, Lib.strCells_length]
        omega
      · have e1 : (bs ++ s.data.toList).length = (u8s bs ++ Lib.strCells s).length := by rw [List.length_append, List.length_append, u8s_length, Lib.strCells_length, hsz]
        simp only [Array.toList_append, List.toList_toArray]
        rw [e1, List.take_left, strCells_u8s]
        simp [u8s]
end Go.Proofs.Ytlgaianlkbaedaa

/- What Append does. -/
namespace Go.Proofs.Ytlgaianlkbaedaa
open Go.RowKit Go.Maps
open Go.WideMaps (keyOf_string_mk)
set_option maxRecDepth 100000
set_option linter.unusedSimpArgs false
set_option linter.unusedVariables false

theorem step_append_run {ops : Array Oper} {o : Oper} {a : Act} {w : World} {K : Act → World → Prop} {Q : Exit → Act → World → Prop} {E : Prop}
    (hg : o.guard = none) (s x : Operand) (hop : o.op = Op.call { callee := Callee.builtin Builtin.append, args := #[s, x], argTypes := #[75, 9] })
    (sv xv v' : Value) (w3 : World) (hs : a.eval s = sv) (hx : a.eval x = xv) (hrun : ∀ ty, (Builtin.append_ #[75, 9] ty #[sv, xv]).run Try.prog w = .ok v' w3)
    (hK : K (a.put o.dst v') w3) : if Region.wanted o (yielded ops a.tmps) = true then Oper.wp Try.prog o a w K Q else E := by
  have hw : Region.wanted o (yielded ops a.tmps) = true := by simp [Region.wanted, hg]
  rw [if_pos hw]
  have hr := hrun o.type
  unfold Oper.wp
  simp [execOp, hop, resolve, invoke, builtin, hs, hx, hr, Result.andThen]
  exact hK

set_option maxHeartbeats 800000 in
theorem append_walk {w : World} {a : Nat} {mo : Option Nat} (n b : ByteArray) (free : Nat) (m : Nat) (hm : m = min b.size free) (hfree : free ≤ 16777216) (hbs : b.size ≤ 9223372036854775807) (sv : Value) (safe : Int) (hsv : ∃ oa l c, sv = .slice oa l c)
    (post : Ending → World → Prop)
    (HA : Hid (Calls Try.prog 48 #[.pointer (some ⟨a, 0, none⟩), .string n] w fun e w' => e = .returned (.int .i64 0) ∧ Below w.heap.size w w'))
    (HF : Hid (∀ W, Below w.heap.size w W → Calls Try.prog 49 #[.pointer (some ⟨a, 0, none⟩)] W fun e w' => e = .returned (.int .i64 (free : Int)) ∧ Below w.heap.size w w'))
    (HL : Hid (∀ W, Below w.heap.size w W → (Instr.lookup 56 (.map mo) (.string n) false).run Try.prog W = .ok (.agg #[sv, .int .i64 safe]) W))
    (HC : Hid (∀ W, Below w.heap.size w W → W.cell? ⟨a, 1, none⟩ = some (.map mo)))
    (HR : Hid (∀ W, Below w.heap.size w W → ∃ v' w3, (∃ oa l c, v' = .slice oa l c) ∧ (∀ ty, (Builtin.append_ #[75, 9] ty #[sv, .string (b.extract 0 m)]).run Try.prog (W.alloc (.cells #[sv, .int .i64 safe] 77)).drew = .ok v' w3) ∧
      w3.cell? ⟨W.heap.size, 0, none⟩ = some sv ∧ w3.frozen? ⟨W.heap.size, 0, none⟩ = false ∧ w3.cell? ⟨W.heap.size, 1, none⟩ = some (.int .i64 safe) ∧
      Calls Try.prog 36 #[.pointer (some ⟨a, 0, none⟩), .string n, .agg #[v', .int .i64 safe]] (w3.setCell ⟨W.heap.size, 0, none⟩ v') fun e w' => e = .returned (.tuple #[]) ∧ post (.returned (.int .i64 (if b.size ≤ free then 0 else 7))) w')) :
    Calls Try.prog 26 #[.pointer (some ⟨a, 0, none⟩), .string n, .string b] w post := by
  obtain ⟨oa, l, c, rfl⟩ := hsv
  have hmin : min (b.size : Int) (free : Int) = (m : Int) := by omega
  have hmb : (m : Int) ≤ (b.size : Int) := by omega
  by_cases hle : b.size ≤ free
  · rw [if_pos hle] at HR
    have hlt : ¬ ((m : Int) < (b.size : Int)) := by omega
    clear hm hle
    go_enter Try.func26, Try.ntmps26
    go_wp2_with (go_at_call 48; refine HA.out.mono ?_; rintro e w1 ⟨rfl, hb1⟩)
    go_wp2_with (go_at_call 49; refine (HF.out _ hb1).mono ?_; rintro e w2 ⟨rfl, hb2⟩; have hl := HL.out _ hb2; have hc := HC.out _ hb2; obtain ⟨v', w3, ⟨oa', l', c', hv'⟩, hr, hc3, hf3, hc31, hput⟩ := HR.out _ hb2; subst hv'; have HPut : Hid (Calls Try.prog 36 #[.pointer (some ⟨a, 0, none⟩), .string n, .agg #[.slice oa' l' c', .int .i64 safe]] (w3.setCell ⟨w2.heap.size, 0, none⟩ (.slice oa' l' c')) fun e w' => e = .returned (.tuple #[]) ∧ post (.returned (.int .i64 0)) w') := hput; clear hput; have HRun : Hid (_) := hr; clear hr)
    go_region_law (refine step_append_run rfl (.tmp 28) (.tmp 31) rfl _ _ _ _ (by simp [Act.eval, Act.put]) (by simp [Act.eval, Act.put]) HRun.out ?_)
    go_wp2_with (go_at_call 36; refine HPut.out.mono ?_; rintro e w4 ⟨rfl, hA⟩)
    exact hA
  · rw [if_neg hle] at HR
    have hlt : ((m : Int) < (b.size : Int)) := by omega
    clear hm hle
    go_enter Try.func26, Try.ntmps26
    go_wp2_with (go_at_call 48; refine HA.out.mono ?_; rintro e w1 ⟨rfl, hb1⟩)
    go_wp2_with (go_at_call 49; refine (HF.out _ hb1).mono ?_; rintro e w2 ⟨rfl, hb2⟩; have hl := HL.out _ hb2; have hc := HC.out _ hb2; obtain ⟨v', w3, ⟨oa', l', c', hv'⟩, hr, hc3, hf3, hc31, hput⟩ := HR.out _ hb2; subst hv'; have HPut : Hid (Calls Try.prog 36 #[.pointer (some ⟨a, 0, none⟩), .string n, .agg #[.slice oa' l' c', .int .i64 safe]] (w3.setCell ⟨w2.heap.size, 0, none⟩ (.slice oa' l' c')) fun e w' => e = .returned (.tuple #[]) ∧ post (.returned (.int .i64 7)) w') := hput; clear hput; have HRun : Hid (_) := hr; clear hr)
    go_region_law (refine step_append_run rfl (.tmp 28) (.tmp 31) rfl _ _ _ _ (by simp [Act.eval, Act.put]) (by simp [Act.eval, Act.put]) HRun.out ?_)
    go_wp2_with (go_at_call 36; refine HPut.out.mono ?_; rintro e w4 ⟨rfl, hA⟩)
    exact hA

theorem flook_of_mem : ∀ {fs : List (List UInt8 × FileE)}, fs.Pairwise (fun p q => p.1 ≠ q.1) → ∀ {p : List UInt8 × FileE}, p ∈ fs → flook fs p.1 = some p.2
  | [], _, _, h => by cases h
  | q :: r, hp, p, h => by
    have hp' := List.pairwise_cons.1 hp
    unfold flook
    rcases List.mem_cons.1 h with rfl | h
    · simp
    · have hne : (q.1 == p.1) = false := by simpa using hp'.1 p h
      rw [List.find?_cons, hne]
      exact flook_of_mem hp'.2 h

/-- The bytes at a name: what is there, or nothing. -/
def AtName (fs : List (List UInt8 × FileE)) (n : List UInt8) (f : FileE) : Prop := flook fs n = some f ∨ (flook fs n = none ∧ f = ⟨.slice none 0 0, [], 0⟩)

theorem atName_exists (fs : List (List UInt8 × FileE)) (n : List UInt8) : ∃ f, AtName fs n f := by
  cases h : flook fs n with
  | some f => exact ⟨f, .inl h⟩
  | none => exact ⟨_, .inr ⟨h, rfl⟩⟩

theorem AtName.val {fs : List (List UInt8 × FileE)} {n : List UInt8} {f : FileE} (h : AtName fs n f) : fval fs n = f.val ∧ bsAt fs n = f.bs ∧ safeAt fs n = f.safe := by
  unfold fval bsAt safeAt
  rcases h with h | ⟨h, rfl⟩ <;> rw [h]
  · exact ⟨rfl, rfl, rfl⟩
  · exact ⟨rfl, rfl, rfl⟩

theorem AtName.bytes {w : World} {S : Nat → Prop} {a size : Nat} {mo : Option Nat} {fs : List (List UInt8 × FileE)} (h : DiskM w S a size mo fs) {n : List UInt8} {f : FileE} (hf : AtName fs n f) : BytesAt w S f.sv f.bs ∧ f.safe ≤ f.bs.length := by
  rcases hf with hf | ⟨_, rfl⟩
  · exact h.owns _ (flook_mem hf)
  · exact ⟨.inl ⟨rfl, rfl⟩, Nat.le_refl _⟩

theorem AtName.apart {w : World} {S : Nat → Prop} {a size : Nat} {mo : Option Nat} {fs : List (List UInt8 × FileE)} (h : DiskM w S a size mo fs) {n : List UInt8} {f : FileE} (hf : AtName fs n f) :
    ∀ p ∈ fs, p.1 ≠ n → ∀ k, f.sv.ownBlock = some k → p.2.sv.ownBlock ≠ some k := by
  rcases hf with hf | ⟨_, rfl⟩
  · exact apart_at h.apart hf
  · intro p _ _ k hk; simp [Value.ownBlock] at hk

theorem AtName.of_mem {w : World} {S : Nat → Prop} {a size : Nat} {mo : Option Nat} {fs : List (List UInt8 × FileE)} (h : DiskM w S a size mo fs) {n : List UInt8} {f : FileE} (hf : AtName fs n f) {p : List UInt8 × FileE} (hp : p ∈ fs) (he : p.1 = n) : p.2 = f := by
  have := flook_of_mem h.keys hp
  rw [he] at this
  rcases hf with hf | ⟨hf, _⟩
  · rw [hf] at this; exact (Option.some.inj this).symm
  · rw [hf] at this; cases this

/-- The disk stays as it is while the bytes behind one file's length are turned. -/
theorem DiskM.appended {w w3 : World} {S : Nat → Prop} {a size : Nat} {mo : Option Nat} {fs : List (List UInt8 × FileE)} (h : DiskM w S a size mo fs) {n : List UInt8} {f : FileE} (hf : AtName fs n f)
    (hb : BytesAt w3 S f.sv f.bs) (hg : w.grownBy w3 f.sv.ownBlock) : DiskM w3 S a size mo fs := by
  have hB := (hf.bytes h).1
  have hk : ∀ k, S k → f.sv.ownBlock ≠ some k → w3.heap[k]? = w.heap[k]? := fun k hS hne => hg.block k (h.below k hS) (fun e => hne e.symm)
  have hna : f.sv.ownBlock ≠ some a := fun e => by
    obtain ⟨cur, mk, hh⟩ := hB.block a e
    rw [h.cells] at hh
    simp only [Option.some.injEq, Obj.cells.injEq] at hh
    exact absurd hh.2.1 (by decide)
  have hnb : ∀ b, mo = some b → f.sv.ownBlock ≠ some b := fun b hm e => by
    obtain ⟨cur, mk, hh⟩ := hB.block b e
    subst hm
    obtain ⟨es, clock, hmb, _⟩ := (show w.ownsMap Try.prog 9 Rh b fs.length (dmap fs) from h.files)
    rw [hmb] at hh
    cases hh
  refine ⟨fun k hk => Nat.lt_of_lt_of_le (h.below k hk) hg.size, h.self, (hk a h.self hna).trans h.cells, h.files.kept (fun b e => hk b (h.mapS b e) (hnb b e)), h.mapS, fun p hp => ?_, h.apart, h.room, h.small, h.few⟩
  by_cases he : p.1 = n
  · have := hf.of_mem h hp he
    rw [this]
    exact ⟨hb, (hf.bytes h).2⟩
  · have hp1 := (h.owns p hp).1
    exact ⟨hp1.kept (fun _ hk => hk) (fun k hk' => hk k (hp1.lt k hk').1 (fun e => hf.apart h p hp he k e hk')), (h.owns p hp).2⟩

theorem dextract_take (b : ByteArray) (m : Nat) : (b.extract 0 m).data.toList = b.data.toList.take m := by
  simp

theorem append_any {w : World} {S : Nat → Prop} {a size : Nat} {mo : Option Nat} {fs : List (List UInt8 × FileE)} (h : DiskM w S a size mo fs) (n b : ByteArray) (hn : n.size ≤ maxLen) (hb : b.size ≤ maxLen) (hname : nameB n = true)
    (hadm : (flook fs n.data.toList).isSome = true ∨ fs.length < 256) :
    Calls Try.prog 26 #[.pointer (some ⟨a, 0, none⟩), .string n, .string b] w fun e w' => e = .returned (.int .i64 (if b.size ≤ size - total fs then 0 else 7)) ∧
      ∃ f : FileE, f.bs = bsAt fs n.data.toList ++ b.data.toList.take (min b.size (size - total fs)) ∧ f.safe = safeAt fs n.data.toList ∧ After S w w' a size (fput fs n.data.toList f) := by
  unfold maxLen at hb
  have hsm := h.small
  have hroom := h.room
  have htl := total_fdel_le fs n.data.toList
  rw [lenAt_eq] at htl
  obtain ⟨f, hf⟩ := atName_exists fs n.data.toList
  obtain ⟨hv, hbs, hsf⟩ := hf.val
  have hB := hf.bytes h
  have hsh : ∃ oa l c, f.sv = .slice oa l c := by obtain ⟨oa, c, e⟩ := hB.1.shape; exact ⟨oa, _, c, e⟩
  have hbl : (b.extract 0 (min b.size (size - total fs))).size = min b.size (size - total fs) := by
    simp
  refine append_walk (w := w) (a := a) (mo := mo) n b (size - total fs) (min b.size (size - total fs)) rfl (by omega) (by omega) f.sv f.safe hsh _ (admit_ok h n hn hname hadm)
    (fun W hW => (free_any (h.under hW)).mono (fun e w' ⟨h1, h2⟩ => ⟨h1, hW.trans (h2.mono hW.size)⟩)) (fun W hW => ?_) (fun W hW => (h.under hW).c1) (fun W hW => ?_)
  · have := (h.under hW).files.look n hn
    rw [hv] at this
    exact this
  · have hbox : Below w.heap.size w (W.alloc (.cells #[f.sv, .int .i64 (f.safe : Int)] 77)).drew := (hW.alloc hW.size _).drew
    have hd := h.under hbox
    obtain ⟨v', w3, hr, hb1, hb2, hg, hloc⟩ := (hf.bytes hd).1.append hd.below (b.extract 0 (min b.size (size - total fs))) (by rw [hbl, ← hbs]; omega) 75
    rw [dextract_take] at hb1
    have hsame : ∀ ty, (Builtin.append_ #[75, 9] ty #[f.sv, .string (b.extract 0 (min b.size (size - total fs)))]).run Try.prog (W.alloc (.cells #[f.sv, .int .i64 (f.safe : Int)] 77)).drew = .ok v' w3 := fun ty => hr
    have hds : (W.alloc (.cells #[f.sv, .int .i64 (f.safe : Int)] 77)).drew.heap.size = W.heap.size + 1 := by simp [size_drew]
    have hown : ∀ k, f.sv.ownBlock = some k → S k ∧ k < w.heap.size := fun k hk => ⟨(hB.1.lt k hk).1, (hB.1.lt k hk).2⟩
    have hbx : w3.heap[W.heap.size]? = some (.cells #[f.sv, .int .i64 (f.safe : Int)] 77) := by
      refine (hg.block W.heap.size (by omega) (fun e => ?_)).trans (heap_alloc_new W _)
      have := (hown _ e.symm).2
      have := hW.size
      omega
    obtain ⟨oa2, c2, e2⟩ := hb1.shape
    have hd3 := hd.appended hf hb2 hg
    refine ⟨v', w3, ⟨oa2, _, c2, e2⟩, hsame, by simp [World.cell?, hbx], by simp [World.frozen?, hbx], by simp [World.cell?, hbx], ?_⟩
    have hsc : ∀ k, k ≠ W.heap.size → (w3.setCell ⟨W.heap.size, 0, none⟩ v').heap[k]? = w3.heap[k]? := fun k hk => Below.heap_setCell w3 _ _ k hk
    have hss : (w3.setCell ⟨W.heap.size, 0, none⟩ v').heap.size = w3.heap.size := by simp [World.setCell]
    have hd4 : DiskM (w3.setCell ⟨W.heap.size, 0, none⟩ v') (fun k => S k ∨ (W.heap.size + 1 ≤ k ∧ k < w3.heap.size)) a size mo fs := by
      refine (hd3.kept (w1 := w3.setCell ⟨W.heap.size, 0, none⟩ v') (fun k hk => hsc k (fun e => ?_)) (by omega)).more (fun k hk => .inl hk) (fun k hk => ?_)
      · have := h.below k hk; have := hW.size; omega
      · rcases hk with hk | hk
        · have := hd3.below k hk; omega
        · omega
    have hb4 : BytesAt (w3.setCell ⟨W.heap.size, 0, none⟩ v') (fun k => S k ∨ (W.heap.size + 1 ≤ k ∧ k < w3.heap.size)) v' (f.bs ++ b.data.toList.take (min b.size (size - total fs))) := by
      refine hb1.kept (fun k hk => by rw [hds] at hk; exact hk) (fun k hk => hsc k (fun e => ?_))
      rcases (hb1.lt k hk).1 with h1 | h1
      · have := h.below k h1; have := hW.size; omega
      · omega
    have hlen4 : (f.bs ++ b.data.toList.take (min b.size (size - total fs))).length = f.bs.length + min b.size (size - total fs) := by
      have : b.data.toList.length = b.size := rfl
      rw [List.length_append, List.length_take, this]; omega
    have := put_any hd4 n hn ⟨v', f.bs ++ b.data.toList.take (min b.size (size - total fs)), f.safe⟩ hb4 (by simp only; have := hB.2; omega)
      (fun p hp hne k hk hq => by
        have hp1 := ((h.owns p hp).1.lt k hq).2
        rcases hloc with e | e
        · exact hf.apart h p hp hne k (e ▸ hk) hq
        · have := e k hk; have := hW.size; omega)
      (by rw [total_fput]; simp only; rw [hlen4, ← hbs]; omega) (few_fput _ hadm h.few)
    refine this.mono (fun e w' ⟨h1, h2⟩ => ⟨h1, rfl, ⟨v', f.bs ++ b.data.toList.take (min b.size (size - total fs)), f.safe⟩, by rw [hbs], hsf.symm, ?_⟩)
    have hk1 : Keeps S w w3 := (Keeps.of_below hbox).trans (T := S) ⟨hg.os, hg.tape, hg.output, hg.size, fun k hk hS => hg.block k hk (fun e => hS (hown k e.symm).1)⟩ (fun x hx => .inl hx)
    have hk2 : Keeps S w (w3.setCell ⟨W.heap.size, 0, none⟩ v') := hk1.trans (T := fun k => k = W.heap.size) ⟨rfl, rfl, rfl, by omega, fun k _ hS => hsc k hS⟩ (fun x hx => .inr (by rw [hx]; exact hW.size))
    refine After.then hk2 (fun k hk => ?_) (fun k hk => .inl hk) h2
    rcases hk with hk | hk
    · exact .inl hk
    · exact .inr (by have := hW.size; omega)
end Go.Proofs.Ytlgaianlkbaedaa

/- The files without their memory: names, bytes, how many are safe; what a crash makes of them. -/
namespace Go.Proofs.Ytlgaianlkbaedaa
open Go.RowKit Go.Maps
set_option maxRecDepth 100000
set_option linter.unusedSimpArgs false
set_option linter.unusedVariables false

/-- A name, its bytes, how many of them are safe. -/
structure AF where
  name : List UInt8
  bs : List UInt8
  safe : Nat

def absE (p : List UInt8 × FileE) : AF := ⟨p.1, p.2.bs, p.2.safe⟩
def abs (fs : List (List UInt8 × FileE)) : List AF := fs.map absE

theorem abs_length (fs : List (List UInt8 × FileE)) : (abs fs).length = fs.length := by simp [abs]

theorem before_asymm {x y : List UInt8} (h : bytesBefore x y = true) : bytesBefore y x = false := by
  cases h2 : bytesBefore y x with
  | false => rfl
  | true =>
    have := WideShapes.bytes_trans _ _ _ h h2
    rw [WideAt.bytes_irrefl] at this
    cases this

theorem before_ne {x y : List UInt8} (h : bytesBefore x y = true) : x ≠ y := fun e => by rw [e, WideAt.bytes_irrefl] at h; cases h

theorem fput_set (n : List UInt8) (f : FileE) : ∀ (fs : List (List UInt8 × FileE)) (j : Nat), fs.Pairwise (fun p q => bytesBefore p.1 q.1 = true) → (∀ p, fs[j]? = some p → p.1 = n) → j < fs.length → fput fs n f = fs.set j (n, f)
  | [], j, _, _, hj => by simp at hj
  | q :: r, 0, hp, hn, _ => by
    have hq : q.1 = n := hn q rfl
    have hp' := List.pairwise_cons.1 hp
    have hr : fdel r n = r := fdel_of_ne n r (fun p hp => by rw [← hq]; exact (before_ne (hp'.1 p hp)).symm)
    have e1 : fdel (q :: r) n = r := by
      have : (q.1 == n) = true := by simpa using hq
      unfold fdel at hr ⊢
      rw [List.filter_cons]
      simp only [this, Bool.not_true, Bool.false_eq_true, if_false, hr]
    unfold fput
    rw [e1, List.set_cons_zero]
    cases r with
    | nil => rfl
    | cons z t =>
      have hz : bytesBefore n z.1 = true := by rw [← hq]; exact hp'.1 z (by simp)
      simp [fins, hz]
  | q :: r, j + 1, hp, hn, hj => by
    have hp' := List.pairwise_cons.1 hp
    have hj' : j < r.length := by simpa using hj
    have hpj : r[j].1 = n := hn r[j] (by simp [hj'])
    have hqn : bytesBefore q.1 n = true := by rw [← hpj]; exact hp'.1 _ (List.getElem_mem hj')
    have ih := fput_set n f r j hp'.2 (fun p hp => hn p (by simpa using hp)) hj'
    have e1 : fdel (q :: r) n = q :: fdel r n := by
      have : (q.1 == n) = false := by simpa using before_ne hqn
      unfold fdel
      rw [List.filter_cons]
      simp [this]
    unfold fput at ih ⊢
    rw [e1, List.set_cons_succ, ← ih]
    simp [fins, before_asymm hqn]

def crash1 (ks : List Int) (i : Nat) (x : AF) : AF := ⟨x.name, x.bs.take (x.safe + keptN ks i (x.bs.length - x.safe)), x.safe + keptN ks i (x.bs.length - x.safe)⟩

/-- The first j files, crashed. -/
def crashL (ks : List Int) : Nat → Nat → List AF → List AF
  | _, 0, l => l
  | _, _ + 1, [] => []
  | i, j + 1, x :: r => if x.bs.length = x.safe then x :: crashL ks i j r else crash1 ks i x :: crashL ks (i + 1) j r

def dirtyN : Nat → List AF → Nat
  | 0, _ => 0
  | _ + 1, [] => 0
  | j + 1, x :: r => (if x.bs.length = x.safe then 0 else 1) + dirtyN j r

theorem dirtyN_le : ∀ (j : Nat) (l : List AF), dirtyN j l ≤ j
  | 0, _ => Nat.le_refl _
  | _ + 1, [] => by simp [dirtyN]
  | j + 1, x :: r => by have := dirtyN_le j r; simp only [dirtyN]; split <;> omega

theorem crashL_length (ks : List Int) : ∀ (i j : Nat) (l : List AF), (crashL ks i j l).length = l.length
  | _, 0, l => by simp [crashL]
  | _, _ + 1, [] => rfl
  | i, j + 1, x :: r => by simp only [crashL]; split <;> simp [crashL_length ks _ j r]

theorem crashL_at (ks : List Int) : ∀ (i j : Nat) (l : List AF), (crashL ks i j l)[j]? = l[j]?
  | _, 0, l => by simp [crashL]
  | _, _ + 1, [] => rfl
  | i, j + 1, x :: r => by simp only [crashL]; split <;> simp [crashL_at ks _ j r]

theorem crashL_clean (ks : List Int) : ∀ (i j : Nat) (l : List AF) (x : AF), l[j]? = some x → x.bs.length = x.safe → crashL ks i (j + 1) l = crashL ks i j l
  | i, 0, [], x, h, _ => by simp at h
  | i, 0, y :: r, x, h, hc => by
    simp at h; subst h
    simp [crashL, hc]
  | i, j + 1, [], x, h, _ => by simp at h
  | i, j + 1, y :: r, x, h, hc => by
    have h' : r[j]? = some x := by simpa using h
    rw [crashL]
    conv => rhs; rw [crashL]
    split
    · rw [crashL_clean ks i j r x h' hc]
    · rw [crashL_clean ks (i + 1) j r x h' hc]

theorem crashL_dirty (ks : List Int) : ∀ (i j : Nat) (l : List AF) (x : AF), l[j]? = some x → x.bs.length ≠ x.safe → crashL ks i (j + 1) l = (crashL ks i j l).set j (crash1 ks (i + dirtyN j l) x)
  | i, 0, [], x, h, _ => by simp at h
  | i, 0, y :: r, x, h, hc => by
    simp at h; subst h
    simp [crashL, hc, dirtyN]
  | i, j + 1, [], x, h, _ => by simp at h
  | i, j + 1, y :: r, x, h, hc => by
    have h' : r[j]? = some x := by simpa using h
    rw [crashL]
    conv => rhs; rw [crashL]
    by_cases hy : y.bs.length = y.safe
    · simp only [hy, if_true, dirtyN]
      rw [crashL_dirty ks i j r x h' hc, List.set_cons_succ, Nat.zero_add]
    · simp only [hy, if_false, dirtyN]
      rw [crashL_dirty ks (i + 1) j r x h' hc, List.set_cons_succ]
      congr 3
      omega

theorem dirtyN_clean : ∀ (j : Nat) (l : List AF) (x : AF), l[j]? = some x → x.bs.length = x.safe → dirtyN (j + 1) l = dirtyN j l
  | 0, [], x, h, _ => by simp at h
  | 0, y :: r, x, h, hc => by simp at h; subst h; simp [dirtyN, hc]
  | j + 1, [], x, h, _ => by simp at h
  | j + 1, y :: r, x, h, hc => by
    have h' : r[j]? = some x := by simpa using h
    rw [dirtyN, dirtyN_clean j r x h' hc]
    rfl

theorem dirtyN_dirty : ∀ (j : Nat) (l : List AF) (x : AF), l[j]? = some x → x.bs.length ≠ x.safe → dirtyN (j + 1) l = dirtyN j l + 1
  | 0, [], x, h, _ => by simp at h
  | 0, y :: r, x, h, hc => by simp at h; subst h; simp [dirtyN, hc]
  | j + 1, [], x, h, _ => by simp at h
  | j + 1, y :: r, x, h, hc => by
    have h' : r[j]? = some x := by simpa using h
    rw [dirtyN, dirtyN_dirty j r x h' hc]
    simp only [dirtyN]
    omega

theorem crashL_names (ks : List Int) : ∀ (i j : Nat) (l : List AF), (crashL ks i j l).map AF.name = l.map AF.name
  | _, 0, l => by simp [crashL]
  | _, _ + 1, [] => rfl
  | i, j + 1, x :: r => by simp only [crashL]; split <;> simp [crashL_names ks _ j r, crash1]

def totalA : List AF → Nat
  | [] => 0
  | x :: r => x.bs.length + totalA r
theorem total_abs : ∀ fs : List (List UInt8 × FileE), totalA (abs fs) = total fs
  | [] => rfl
  | p :: r => by have := total_abs r; unfold abs at this ⊢; simp only [List.map_cons, totalA, total, this]; rfl

theorem totalA_set : ∀ (l : List AF) (j : Nat) (x y : AF), l[j]? = some x → y.bs.length ≤ x.bs.length → totalA (l.set j y) ≤ totalA l
  | [], _, _, _, h, _ => by simp at h
  | z :: r, 0, x, y, h, hle => by simp at h; subst h; simp [totalA]; omega
  | z :: r, j + 1, x, y, h, hle => by
    have := totalA_set r j x y (by simpa using h) hle
    simp [totalA]; omega

theorem abs_set (fs : List (List UInt8 × FileE)) (j : Nat) (p : List UInt8 × FileE) : abs (fs.set j p) = (abs fs).set j (absE p) := by simp [abs, List.map_set]
theorem abs_at (fs : List (List UInt8 × FileE)) (j : Nat) : (abs fs)[j]? = (fs[j]?).map absE := by simp [abs]
end Go.Proofs.Ytlgaianlkbaedaa

