/- Two messages: are they the same? -/
import Derived.Test.YtocdlaoklagdoaaDoorSb
import Derived.Test.YtocdlaoklagdoaaDoorAn
namespace Go.Proofs.YtocdlaoklagdoaaDoor
open Go.RowKit Go.Maps
set_option linter.unusedSimpArgs false
set_option linter.unusedVariables false
set_option maxRecDepth 100000

set_option maxHeartbeats 1000000 in
theorem neq52 (d : ByteArray) (t i : Int) (w : World) : (binOp .neq 52 (.agg #[.int .i64 t, .int .i64 i, .string d]) (.agg #[.int .i64 t, .int .i64 i, .string d])).run Tryd.prog w = .ok (.bool false) w := by
  rw [run_neq_struct, run_equalIn_agg w 9999 52 _ _ (by kernel_rfl) (by kernel_rfl)]
  simp [go_sem]
set_option maxHeartbeats 1000000 in
theorem neq52_not (d d' : ByteArray) (t i t' i' : Int) (h : ¬ (t = t' ∧ i = i' ∧ d = d')) (w : World) : (binOp .neq 52 (.agg #[.int .i64 t, .int .i64 i, .string d]) (.agg #[.int .i64 t', .int .i64 i', .string d'])).run Tryd.prog w = .ok (.bool true) w := by
  rw [run_neq_struct, run_equalIn_agg w 9999 52 _ _ (by kernel_rfl) (by kernel_rfl)]
  by_cases h1 : t = t'
  · subst h1
    by_cases h2 : i = i'
    · subst h2
      have h3 := toList_ne (fun e => h ⟨rfl, rfl, e⟩ : ¬ d = d')
      simp [go_sem, h3]
    · simp [go_sem, h2]
  · simp [go_sem, h1]

/-- What same looks at: both boxes, both rows of numbers. -/
structure SgAt (w : World) (A B N M : Array Value) (W : World) : Prop where
  below : Below w.heap.size w W
  b0 : W.heap[w.heap.size]? = some (.cells A 27)
  b1 : W.heap[w.heap.size + 1]? = some (.cells B 27)
  r0 : W.heap[w.heap.size + 3]? = some (.cells N 3)
  r1 : W.heap[w.heap.size + 5]? = some (.cells M 3)
  sz : w.heap.size + 6 ≤ W.heap.size
theorem SgAt.laid (w : World) (A B N M : Array Value) : SgAt w A B N M ((((((w.alloc (.cells A 27)).alloc (.cells B 27)).alloc (.cells A 27)).alloc (.cells N 3)).alloc (.cells B 27)).alloc (.cells M 3)) := by
  have hk : ∀ (W : World) (O : Obj) (j : Nat), j < W.heap.size → (W.alloc O).heap[j]? = W.heap[j]? := fun W O j h => Below.heap_alloc W O j h
  refine ⟨((((((Below.refl _ w).alloc (Nat.le_refl _) _).alloc (by simp <;> omega) _).alloc (by simp <;> omega) _).alloc (by simp <;> omega) _).alloc (by simp <;> omega) _).alloc (by simp <;> omega) _, ?_, ?_, ?_, ?_, by simp⟩
  · rw [hk _ _ _ (by simp <;> omega), hk _ _ _ (by simp <;> omega), hk _ _ _ (by simp <;> omega), hk _ _ _ (by simp <;> omega), hk _ _ _ (by simp <;> omega)]
    exact heap_alloc_new w _
  · rw [hk _ _ _ (by simp <;> omega), hk _ _ _ (by simp <;> omega), hk _ _ _ (by simp <;> omega), hk _ _ _ (by simp <;> omega)]
    exact heap_alloc2_new w _ _
  · rw [hk _ _ _ (by simp <;> omega), hk _ _ _ (by simp <;> omega)]
    have := heap_alloc_new (((w.alloc (.cells A 27)).alloc (.cells B 27)).alloc (.cells A 27)) (.cells N 3)
    have z : (((w.alloc (.cells A 27)).alloc (.cells B 27)).alloc (.cells A 27)).heap.size = w.heap.size + 3 := by simp
    rw [z] at this
    exact this
  · have := heap_alloc_new (((((w.alloc (.cells A 27)).alloc (.cells B 27)).alloc (.cells A 27)).alloc (.cells N 3)).alloc (.cells B 27)) (.cells M 3)
    have z : (((((w.alloc (.cells A 27)).alloc (.cells B 27)).alloc (.cells A 27)).alloc (.cells N 3)).alloc (.cells B 27)).heap.size = w.heap.size + 5 := by simp
    rw [z] at this
    exact this
theorem SgAt.next {w : World} {A B N M : Array Value} {W W' : World} (h : SgAt w A B N M W) (hb : Below W.heap.size W W') : SgAt w A B N M W' :=
  ⟨h.below.trans (hb.mono h.below.size), (hb.block _ (by have := h.sz; omega)).trans h.b0, (hb.block _ (by have := h.sz; omega)).trans h.b1, (hb.block _ (by have := h.sz; omega)).trans h.r0, (hb.block _ (by have := h.sz; omega)).trans h.r1, Nat.le_trans h.sz hb.size⟩
theorem SgAt.drewN {w : World} {A B N M : Array Value} {W : World} (h : SgAt w A B N M W) (n : Nat) : SgAt w A B N M (W.drewN n) := ⟨below_drewN h.below n, h.b0, h.b1, h.r0, h.r1, h.sz⟩
theorem SgAt.drew {w : World} {A B N M : Array Value} {W : World} (h : SgAt w A B N M W) : SgAt w A B N M W.drew := ⟨h.below.drew, h.b0, h.b1, h.r0, h.r1, h.sz⟩

theorem msg_ext {x y : Msg} (h0 : nums x = nums y) (h1 : x.kind = y.kind) (h2 : x.err = y.err) (h3 : x.name = y.name) (h4 : x.text = y.text) (h5 : x.bats = y.bats) (h6 : x.ents = y.ents) (h7 : x.ints = y.ints) : x = y := by
  cases x
  cases y
  simp only [nums, List.cons.injEq] at h0
  simp_all
theorem all_of_get {α : Type} {l m : List α} {k : Nat} (h : ∀ j, j < k → l[j]? = m[j]?) (h1 : l.length ≤ k) (h2 : m.length ≤ k) : l = m := List.ext_getElem? fun j => by
  by_cases hj : j < k
  · exact h j hj
  · rw [List.getElem?_eq_none (by omega), List.getElem?_eq_none (by omega)]
theorem get_next {α : Type} {l m : List α} {k : Nat} (h : ∀ j, j < k → l[j]? = m[j]?) (h1 : k < l.length) (h2 : k < m.length) (he : l[k] = m[k]) : ∀ j, j < k + 1 → l[j]? = m[j]? := fun j hj => by
  by_cases e : j = k
  · subst e
    rw [List.getElem?_eq_getElem h1, List.getElem?_eq_getElem h2, he]
  · exact h j (by omega)
theorem ent_ext {x y : Ent} (h1 : x.term = y.term) (h2 : x.index = y.index) (h3 : x.data = y.data) : x = y := by
  cases x
  cases y
  simp_all

set_option maxHeartbeats 6400000 in
theorem same_any {w : World} (x y : Msg) (ba : Option Addr) (bc : Nat) (ea : Option Addr) (ec : Nat) (ia : Option Addr) (ic : Nat) (pb : Option Addr) (qb : Nat) (pe : Option Addr) (qe : Nat) (pi : Option Addr) (qi : Nat) (hx : Here w x ba ea ia) (hy : Here w y pb pe pi) (l1 : x.bats.length ≤ maxLen) (l2 : x.ents.length ≤ maxLen) (l3 : x.ints.length ≤ maxLen) :
    Calls Tryd.prog 17 #[.agg #[.int .i64 x.kind, .int .i64 x.n0, .int .i64 x.n1, .int .i64 x.n2, .int .i64 x.n3, .int .i64 x.n4, .int .i64 x.n5, .int .i64 x.n6, .int .i64 x.n7, .int .i64 x.n8, .int .i64 x.n9, .int .i64 x.n10, .int .i64 x.n11, .int .i64 x.n12, .int .i64 x.n13, .int .i64 x.err, .string (strOf x.name), .string (strOf x.text), .slice ba x.bats.length bc, .slice ea x.ents.length ec, .slice ia x.ints.length ic], .agg #[.int .i64 y.kind, .int .i64 y.n0, .int .i64 y.n1, .int .i64 y.n2, .int .i64 y.n3, .int .i64 y.n4, .int .i64 y.n5, .int .i64 y.n6, .int .i64 y.n7, .int .i64 y.n8, .int .i64 y.n9, .int .i64 y.n10, .int .i64 y.n11, .int .i64 y.n12, .int .i64 y.n13, .int .i64 y.err, .string (strOf y.name), .string (strOf y.text), .slice pb y.bats.length qb, .slice pe y.ents.length qe, .slice pi y.ints.length qi]] w fun e w' => Told (x = y) w e w' := by
  unfold maxLen at l1 l2 l3
  have H25 := hid (fun W => rnumbers_any x.kind x.n0 x.n1 x.n2 x.n3 x.n4 x.n5 x.n6 x.n7 x.n8 x.n9 x.n10 x.n11 x.n12 x.n13 x.err (strOf x.name) (strOf x.text) ba ea ia x.bats.length bc x.ents.length ec x.ints.length ic W)
  have G25 := hid (fun W => rnumbers_any y.kind y.n0 y.n1 y.n2 y.n3 y.n4 y.n5 y.n6 y.n7 y.n8 y.n9 y.n10 y.n11 y.n12 y.n13 y.err (strOf y.name) (strOf y.text) pb pe pi y.bats.length qb y.ents.length qe y.ints.length qi W)
  have X0 : Hid (((w.alloc (.cells #[.int .i64 x.kind, .int .i64 x.n0, .int .i64 x.n1, .int .i64 x.n2, .int .i64 x.n3, .int .i64 x.n4, .int .i64 x.n5, .int .i64 x.n6, .int .i64 x.n7, .int .i64 x.n8, .int .i64 x.n9, .int .i64 x.n10, .int .i64 x.n11, .int .i64 x.n12, .int .i64 x.n13, .int .i64 x.err, .string (strOf x.name), .string (strOf x.text), .slice ba x.bats.length bc, .slice ea x.ents.length ec, .slice ia x.ints.length ic] 27)).alloc (.cells #[.int .i64 y.kind, .int .i64 y.n0, .int .i64 y.n1, .int .i64 y.n2, .int .i64 y.n3, .int .i64 y.n4, .int .i64 y.n5, .int .i64 y.n6, .int .i64 y.n7, .int .i64 y.n8, .int .i64 y.n9, .int .i64 y.n10, .int .i64 y.n11, .int .i64 y.n12, .int .i64 y.n13, .int .i64 y.err, .string (strOf y.name), .string (strOf y.text), .slice pb y.bats.length qb, .slice pe y.ents.length qe, .slice pi y.ints.length qi] 27)).heap[w.heap.size]? = some (.cells #[.int .i64 x.kind, .int .i64 x.n0, .int .i64 x.n1, .int .i64 x.n2, .int .i64 x.n3, .int .i64 x.n4, .int .i64 x.n5, .int .i64 x.n6, .int .i64 x.n7, .int .i64 x.n8, .int .i64 x.n9, .int .i64 x.n10, .int .i64 x.n11, .int .i64 x.n12, .int .i64 x.n13, .int .i64 x.err, .string (strOf x.name), .string (strOf x.text), .slice ba x.bats.length bc, .slice ea x.ents.length ec, .slice ia x.ints.length ic] 27)) := (Below.heap_alloc _ _ _ (by simp)).trans (heap_alloc_new w _)
  have X1 : Hid (((((w.alloc (.cells #[.int .i64 x.kind, .int .i64 x.n0, .int .i64 x.n1, .int .i64 x.n2, .int .i64 x.n3, .int .i64 x.n4, .int .i64 x.n5, .int .i64 x.n6, .int .i64 x.n7, .int .i64 x.n8, .int .i64 x.n9, .int .i64 x.n10, .int .i64 x.n11, .int .i64 x.n12, .int .i64 x.n13, .int .i64 x.err, .string (strOf x.name), .string (strOf x.text), .slice ba x.bats.length bc, .slice ea x.ents.length ec, .slice ia x.ints.length ic] 27)).alloc (.cells #[.int .i64 y.kind, .int .i64 y.n0, .int .i64 y.n1, .int .i64 y.n2, .int .i64 y.n3, .int .i64 y.n4, .int .i64 y.n5, .int .i64 y.n6, .int .i64 y.n7, .int .i64 y.n8, .int .i64 y.n9, .int .i64 y.n10, .int .i64 y.n11, .int .i64 y.n12, .int .i64 y.n13, .int .i64 y.err, .string (strOf y.name), .string (strOf y.text), .slice pb y.bats.length qb, .slice pe y.ents.length qe, .slice pi y.ints.length qi] 27)).alloc (.cells #[.int .i64 x.kind, .int .i64 x.n0, .int .i64 x.n1, .int .i64 x.n2, .int .i64 x.n3, .int .i64 x.n4, .int .i64 x.n5, .int .i64 x.n6, .int .i64 x.n7, .int .i64 x.n8, .int .i64 x.n9, .int .i64 x.n10, .int .i64 x.n11, .int .i64 x.n12, .int .i64 x.n13, .int .i64 x.err, .string (strOf x.name), .string (strOf x.text), .slice ba x.bats.length bc, .slice ea x.ents.length ec, .slice ia x.ints.length ic] 27)).alloc (.cells #[.int .i64 x.n0, .int .i64 x.n1, .int .i64 x.n2, .int .i64 x.n3, .int .i64 x.n4, .int .i64 x.n5, .int .i64 x.n6, .int .i64 x.n7, .int .i64 x.n8, .int .i64 x.n9, .int .i64 x.n10, .int .i64 x.n11, .int .i64 x.n12, .int .i64 x.n13] 3)).heap[w.heap.size + 1]? = some (.cells #[.int .i64 y.kind, .int .i64 y.n0, .int .i64 y.n1, .int .i64 y.n2, .int .i64 y.n3, .int .i64 y.n4, .int .i64 y.n5, .int .i64 y.n6, .int .i64 y.n7, .int .i64 y.n8, .int .i64 y.n9, .int .i64 y.n10, .int .i64 y.n11, .int .i64 y.n12, .int .i64 y.n13, .int .i64 y.err, .string (strOf y.name), .string (strOf y.text), .slice pb y.bats.length qb, .slice pe y.ents.length qe, .slice pi y.ints.length qi] 27)) := by
    show _ = _
    rw [Below.heap_alloc _ _ _ (by simp <;> omega), Below.heap_alloc _ _ _ (by simp <;> omega)]
    exact heap_alloc2_new w _ _
  have H0 := hid (SgAt.laid w #[.int .i64 x.kind, .int .i64 x.n0, .int .i64 x.n1, .int .i64 x.n2, .int .i64 x.n3, .int .i64 x.n4, .int .i64 x.n5, .int .i64 x.n6, .int .i64 x.n7, .int .i64 x.n8, .int .i64 x.n9, .int .i64 x.n10, .int .i64 x.n11, .int .i64 x.n12, .int .i64 x.n13, .int .i64 x.err, .string (strOf x.name), .string (strOf x.text), .slice ba x.bats.length bc, .slice ea x.ents.length ec, .slice ia x.ints.length ic] #[.int .i64 y.kind, .int .i64 y.n0, .int .i64 y.n1, .int .i64 y.n2, .int .i64 y.n3, .int .i64 y.n4, .int .i64 y.n5, .int .i64 y.n6, .int .i64 y.n7, .int .i64 y.n8, .int .i64 y.n9, .int .i64 y.n10, .int .i64 y.n11, .int .i64 y.n12, .int .i64 y.n13, .int .i64 y.err, .string (strOf y.name), .string (strOf y.text), .slice pb y.bats.length qb, .slice pe y.ents.length qe, .slice pi y.ints.length qi] #[.int .i64 x.n0, .int .i64 x.n1, .int .i64 x.n2, .int .i64 x.n3, .int .i64 x.n4, .int .i64 x.n5, .int .i64 x.n6, .int .i64 x.n7, .int .i64 x.n8, .int .i64 x.n9, .int .i64 x.n10, .int .i64 x.n11, .int .i64 x.n12, .int .i64 x.n13] #[.int .i64 y.n0, .int .i64 y.n1, .int .i64 y.n2, .int .i64 y.n3, .int .i64 y.n4, .int .i64 y.n5, .int .i64 y.n6, .int .i64 y.n7, .int .i64 y.n8, .int .i64 y.n9, .int .i64 y.n10, .int .i64 y.n11, .int .i64 y.n12, .int .i64 y.n13])
  have HL : Hid (∀ z : Msg, ∀ i, i < 14 → (#[.int .i64 z.n0, .int .i64 z.n1, .int .i64 z.n2, .int .i64 z.n3, .int .i64 z.n4, .int .i64 z.n5, .int .i64 z.n6, .int .i64 z.n7, .int .i64 z.n8, .int .i64 z.n9, .int .i64 z.n10, .int .i64 z.n11, .int .i64 z.n12, .int .i64 z.n13] : Array Value)[i]? = some (.int .i64 ((nums z).getD i 0))) := fun z i hi => by
    have h : i = 0 ∨ i = 1 ∨ i = 2 ∨ i = 3 ∨ i = 4 ∨ i = 5 ∨ i = 6 ∨ i = 7 ∨ i = 8 ∨ i = 9 ∨ i = 10 ∨ i = 11 ∨ i = 12 ∨ i = 13 := by omega
    rcases h with rfl | rfl | rfl | rfl | rfl | rfl | rfl | rfl | rfl | rfl | rfl | rfl | rfl | rfl <;> rfl
  have HX := hid (And.intro hx hy)
  clear hx hy
  obtain ⟨P, hP⟩ : ∃ P : Prop, P = (x = y) := ⟨_, rfl⟩
  have YES : Hid (nums x = nums y → x.kind = y.kind → x.err = y.err → x.name = y.name → x.text = y.text → x.bats = y.bats → x.ents = y.ents → x.ints = y.ints → P) := fun h0 h1 h2 h3 h4 h5 h6 h7 => by rw [hP]; exact msg_ext h0 h1 h2 h3 h4 h5 h6 h7
  have NO : Hid (P → x = y) := fun h => by rw [hP] at h; exact h
  rw [← hP]
  clear hP
  have q1 : ∀ x : Int, (x != x) = false := fun x => by simp
  have q2 : ∀ s : ByteArray, (s.toList != s.toList) = false := fun s => by simp
  have q3 : ∀ s : ByteArray, (s.toList == s.toList) = true := fun s => by simp
  go_enter Tryd.func17, Tryd.ntmps17
  go_wp2_with (first | (refine wpList_load_row rfl 27 _ rfl w.heap.size rfl 27 _ (0, 0) _ X0.out Tryd.underlying27 rfl size27 ?_) | fail)
  refine (H25.out _).mono ?_
  rintro e w1 ⟨rfl, rfl⟩
  go_wp2_with (first | (refine wpList_load_row rfl 27 _ rfl (w.heap.size + 1) rfl 27 _ (0, 0) _ X1.out Tryd.underlying27 rfl size27 ?_) | fail)
  refine (G25.out _).mono ?_
  rintro e w1 ⟨rfl, rfl⟩
  go_wp2
  go_loopw [7] (fun i wr => ∃ j : Nat, j ≤ 14 ∧ i = .int .i64 j ∧ Hid (SgAt w #[.int .i64 x.kind, .int .i64 x.n0, .int .i64 x.n1, .int .i64 x.n2, .int .i64 x.n3, .int .i64 x.n4, .int .i64 x.n5, .int .i64 x.n6, .int .i64 x.n7, .int .i64 x.n8, .int .i64 x.n9, .int .i64 x.n10, .int .i64 x.n11, .int .i64 x.n12, .int .i64 x.n13, .int .i64 x.err, .string (strOf x.name), .string (strOf x.text), .slice ba x.bats.length bc, .slice ea x.ents.length ec, .slice ia x.ints.length ic] #[.int .i64 y.kind, .int .i64 y.n0, .int .i64 y.n1, .int .i64 y.n2, .int .i64 y.n3, .int .i64 y.n4, .int .i64 y.n5, .int .i64 y.n6, .int .i64 y.n7, .int .i64 y.n8, .int .i64 y.n9, .int .i64 y.n10, .int .i64 y.n11, .int .i64 y.n12, .int .i64 y.n13, .int .i64 y.err, .string (strOf y.name), .string (strOf y.text), .slice pb y.bats.length qb, .slice pe y.ents.length qe, .slice pi y.ints.length qi] #[.int .i64 x.n0, .int .i64 x.n1, .int .i64 x.n2, .int .i64 x.n3, .int .i64 x.n4, .int .i64 x.n5, .int .i64 x.n6, .int .i64 x.n7, .int .i64 x.n8, .int .i64 x.n9, .int .i64 x.n10, .int .i64 x.n11, .int .i64 x.n12, .int .i64 x.n13] #[.int .i64 y.n0, .int .i64 y.n1, .int .i64 y.n2, .int .i64 y.n3, .int .i64 y.n4, .int .i64 y.n5, .int .i64 y.n6, .int .i64 y.n7, .int .i64 y.n8, .int .i64 y.n9, .int .i64 y.n10, .int .i64 y.n11, .int .i64 y.n12, .int .i64 y.n13] wr ∧ ∀ t, t < j → (nums x).getD t 0 = (nums y).getD t 0)) (fun i _ => 14 - (intOf i).toNat)
  case atStart => exact ⟨0, by omega, rfl, H0.out, fun t ht => by omega⟩
  case round =>
    obtain ⟨j, hj, rfl, HD⟩ := hrel
    clear H0 H25 G25 X0 X1
    by_cases hlt : j < 14
    · have hlt' : (j : Int) < 14 := by omega
      have i0 : (0 : Int) ≤ (j : Int) := by omega
      have c0 := cell_blk HD.out.1.r0 j _ (HL.out x j hlt)
      have c1 := cell_blk HD.out.1.r1 j _ (HL.out y j hlt)
      by_cases heq : (nums x).getD j 0 = (nums y).getD j 0
      · rw [← heq] at c1
        have hnx : Hid (∀ t, t < j + 1 → (nums x).getD t 0 = (nums y).getD t 0) := fun t ht => by
          by_cases e : t = j
          · subst e; exact heq
          · exact HD.out.2 t (by omega)
        clear heq
        generalize (nums x).getD j 0 = V at *
        go_wp2
        go_quiet (fail)
        go_wp2
        go_roundw
        case rel => exact ⟨j + 1, by omega, by go_num, HD.out.1.drewN _, hnx.out⟩
        case measure => simp [intOf]; omega
      · have hno : Hid (¬ P) := fun h => heq (by rw [NO.out h])
        generalize (nums x).getD j 0 = V at *
        generalize (nums y).getD j 0 = V2 at *
        have q : (V != V2) = true := by simpa using heq
        go_wp2
        go_quiet (fail)
        go_wp2
        go_ret
        exact Told.no hno.out (below_drewN HD.out.1.below _)
    · have hlt' : ¬ (j : Int) < 14 := by omega
      have HN : Hid (nums x = nums y) := by
        refine List.ext_getElem (by rfl) fun t h1 h2 => ?_
        have := HD.out.2 t (by have : (nums x).length = 14 := rfl; omega)
        simpa [List.getD, h1, h2] using this
      obtain ⟨d0, d1, d2, d3, d4, d5, d6, d7, d8, d9, d10, d11, d12, d13, d14, d15, d16, d17, d18, d19, d20⟩ := mcells HD.out.1.b0
      obtain ⟨f0, f1, f2, f3, f4, f5, f6, f7, f8, f9, f10, f11, f12, f13, f14, f15, f16, f17, f18, f19, f20⟩ := mcells HD.out.1.b1
      clear d1 d2 d3 d4 d5 d6 d7 d8 d9 d10 d11 d12 d13 d14 f1 f2 f3 f4 f5 f6 f7 f8 f9 f10 f11 f12 f13 f14 HL
      by_cases e_kind : x.kind = y.kind
      case neg =>
        have hno : Hid (¬ P) := fun h => e_kind (by rw [NO.out h])
        have q : (x.kind != y.kind) = true := by simpa using e_kind
        go_wp2
        go_ret
        exact Told.no hno.out HD.out.1.below
      rw [← e_kind] at f0
      by_cases e_err : x.err = y.err
      case neg =>
        have hno : Hid (¬ P) := fun h => e_err (by rw [NO.out h])
        have q : (x.err != y.err) = true := by simpa using e_err
        go_wp2
        go_ret
        exact Told.no hno.out HD.out.1.below
      rw [← e_err] at f15
      by_cases e_name : x.name = y.name
      case neg =>
        have hno : Hid (¬ P) := fun h => e_name (by rw [NO.out h])
        have q : ((strOf x.name).toList != (strOf y.name).toList) = true := by simp only [bne_iff_ne]; exact toList_ne (fun e => e_name (strOf_inj e))
        have q0 : ((strOf x.name).toList == (strOf y.name).toList) = false := by simp only [beq_eq_false_iff_ne]; exact toList_ne (fun e => e_name (strOf_inj e))
        go_wp2
        go_ret
        exact Told.no hno.out HD.out.1.below
      rw [← e_name] at f16
      by_cases e_text : x.text = y.text
      case neg =>
        have hno : Hid (¬ P) := fun h => e_text (by rw [NO.out h])
        have q : ((strOf x.text).toList != (strOf y.text).toList) = true := by simp only [bne_iff_ne]; exact toList_ne (fun e => e_text (strOf_inj e))
        have q0 : ((strOf x.text).toList == (strOf y.text).toList) = false := by simp only [beq_eq_false_iff_ne]; exact toList_ne (fun e => e_text (strOf_inj e))
        go_wp2
        go_ret
        exact Told.no hno.out HD.out.1.below
      rw [← e_text] at f17
      by_cases e_bats : x.bats.length = y.bats.length
      case neg =>
        have hno : Hid (¬ P) := fun h => e_bats (by rw [NO.out h])
        have q : ((x.bats.length : Int) != (y.bats.length : Int)) = true := by simp; omega
        go_wp2
        go_ret
        exact Told.no hno.out HD.out.1.below
      rw [← e_bats] at f18
      by_cases e_ents : x.ents.length = y.ents.length
      case neg =>
        have hno : Hid (¬ P) := fun h => e_ents (by rw [NO.out h])
        have q : ((x.ents.length : Int) != (y.ents.length : Int)) = true := by simp; omega
        go_wp2
        go_ret
        exact Told.no hno.out HD.out.1.below
      rw [← e_ents] at f19
      by_cases e_ints : x.ints.length = y.ints.length
      case neg =>
        have hno : Hid (¬ P) := fun h => e_ints (by rw [NO.out h])
        have q : ((x.ints.length : Int) != (y.ints.length : Int)) = true := by simp; omega
        go_wp2
        go_ret
        exact Told.no hno.out HD.out.1.below
      rw [← e_ints] at f20
      have HS := hid (And.intro e_kind (And.intro e_err (And.intro e_name e_text)))
      have HLn := hid (And.intro e_bats (And.intro e_ents e_ints))
      have W0 := HD.out.1
      have HW := hid W0
      clear W0 e_kind e_err e_name e_text e_bats e_ents e_ints HD
      go_wp2
      go_loopw [8] (fun i wx => ∃ k : Nat, k ≤ x.bats.length ∧ i = .int .i64 k ∧ Hid (SgAt w #[.int .i64 x.kind, .int .i64 x.n0, .int .i64 x.n1, .int .i64 x.n2, .int .i64 x.n3, .int .i64 x.n4, .int .i64 x.n5, .int .i64 x.n6, .int .i64 x.n7, .int .i64 x.n8, .int .i64 x.n9, .int .i64 x.n10, .int .i64 x.n11, .int .i64 x.n12, .int .i64 x.n13, .int .i64 x.err, .string (strOf x.name), .string (strOf x.text), .slice ba x.bats.length bc, .slice ea x.ents.length ec, .slice ia x.ints.length ic] #[.int .i64 y.kind, .int .i64 y.n0, .int .i64 y.n1, .int .i64 y.n2, .int .i64 y.n3, .int .i64 y.n4, .int .i64 y.n5, .int .i64 y.n6, .int .i64 y.n7, .int .i64 y.n8, .int .i64 y.n9, .int .i64 y.n10, .int .i64 y.n11, .int .i64 y.n12, .int .i64 y.n13, .int .i64 y.err, .string (strOf y.name), .string (strOf y.text), .slice pb y.bats.length qb, .slice pe y.ents.length qe, .slice pi y.ints.length qi] #[.int .i64 x.n0, .int .i64 x.n1, .int .i64 x.n2, .int .i64 x.n3, .int .i64 x.n4, .int .i64 x.n5, .int .i64 x.n6, .int .i64 x.n7, .int .i64 x.n8, .int .i64 x.n9, .int .i64 x.n10, .int .i64 x.n11, .int .i64 x.n12, .int .i64 x.n13] #[.int .i64 y.n0, .int .i64 y.n1, .int .i64 y.n2, .int .i64 y.n3, .int .i64 y.n4, .int .i64 y.n5, .int .i64 y.n6, .int .i64 y.n7, .int .i64 y.n8, .int .i64 y.n9, .int .i64 y.n10, .int .i64 y.n11, .int .i64 y.n12, .int .i64 y.n13] wx ∧ ∀ t, t < k → x.bats[t]? = y.bats[t]?)) (fun i _ => x.bats.length - (intOf i).toNat)
      case atStart => exact ⟨0, by omega, rfl, HW.out, fun t ht => by omega⟩
      case round =>
        obtain ⟨k, hk, rfl, HD⟩ := hrel
        clear d0 f0 d15 f15 d16 f16 d17 f17 d18 f18 d19 f19 d20 f20 HW hlt'
        obtain ⟨d0, d1, d2, d3, d4, d5, d6, d7, d8, d9, d10, d11, d12, d13, d14, d15, d16, d17, d18, d19, d20⟩ := mcells HD.out.1.b0
        obtain ⟨f0, f1, f2, f3, f4, f5, f6, f7, f8, f9, f10, f11, f12, f13, f14, f15, f16, f17, f18, f19, f20⟩ := mcells HD.out.1.b1
        clear d0 d1 d2 d3 d4 d5 d6 d7 d8 d9 d10 d11 d12 d13 d14 d15 d16 d17 f0 f1 f2 f3 f4 f5 f6 f7 f8 f9 f10 f11 f12 f13 f14 f15 f16 f17
        rw [← HLn.out.1] at f18
        rw [← HLn.out.2.1] at f19
        rw [← HLn.out.2.2] at f20
        by_cases hlt : k < x.bats.length
        · have hlt' : (k : Int) < (x.bats.length : Int) := by omega
          have i0 : (0 : Int) ≤ (k : Int) := by omega
          have hlty : k < y.bats.length := by rw [← HLn.out.1]; exact hlt
          obtain ⟨g1, o1, ra, rc, h1, ⟨s0, s1, s2, s3, s4, s5⟩, hr1⟩ := (HX.out.1.bats.under HD.out.1.below).at k hlt
          obtain ⟨g2, o2, rb, rd, h2, ⟨t0, t1, t2, t3, t4, t5⟩, hr2⟩ := (HX.out.2.bats.under HD.out.1.below).at k hlty
          subst h1
          subst h2
          have H31 : Hid (∀ W : World, W = wr.drew → Calls Tryd.prog 31 #[.agg #[.int .i64 x.bats[k].base, .int .i64 x.bats[k].epoch, .int .i64 x.bats[k].pid, .int .i64 x.bats[k].pidEpoch, .int .i64 x.bats[k].seq, .slice ra x.bats[k].recs.length rc], .agg #[.int .i64 y.bats[k].base, .int .i64 y.bats[k].epoch, .int .i64 y.bats[k].pid, .int .i64 y.bats[k].pidEpoch, .int .i64 y.bats[k].seq, .slice rb y.bats[k].recs.length rd]] W fun e w' => Told (x.bats[k] = y.bats[k]) W e w') := fun W h => by
            rw [h]
            exact batchEq_any x.bats[k] y.bats[k] ra rb rc rd (hr1.under (Below.refl _ _).drew) (hr2.under (Below.refl _ _).drew)
          obtain ⟨Q, hQ⟩ : ∃ Q : Prop, Q = (x.bats[k] = y.bats[k]) := ⟨_, rfl⟩
          rw [← hQ] at H31
          have HQ := hid hQ
          clear hQ hr1 hr2 d19 d20 f19 f20
          · skip
            generalize x.bats[k].base = u0 at *
            generalize y.bats[k].base = v0 at *
            generalize x.bats[k].epoch = u1 at *
            generalize y.bats[k].epoch = v1 at *
            generalize x.bats[k].pid = u2 at *
            generalize y.bats[k].pid = v2 at *
            generalize x.bats[k].pidEpoch = u3 at *
            generalize y.bats[k].pidEpoch = v3 at *
            generalize x.bats[k].seq = u4 at *
            generalize y.bats[k].seq = v4 at *
            generalize x.bats[k].recs.length = u5 at *
            generalize y.bats[k].recs.length = v5 at *
            have KB : Hid (∀ w' : World, Below wr.drew.heap.size wr.drew w' → (w'.cell? ⟨w.heap.size, 18, none⟩ = some (.slice (some ⟨g1, o1, none⟩) x.bats.length bc) ∧ w'.cell? ⟨w.heap.size + 1, 18, none⟩ = some (.slice (some ⟨g2, o2, none⟩) x.bats.length qb) ∧ w'.cell? ⟨g1, o1 + k * 6, none⟩ = some (.int .i64 u0) ∧ w'.cell? ⟨g1, o1 + k * 6 + 1, none⟩ = some (.int .i64 u1) ∧ w'.cell? ⟨g1, o1 + k * 6 + 2, none⟩ = some (.int .i64 u2) ∧ w'.cell? ⟨g1, o1 + k * 6 + 3, none⟩ = some (.int .i64 u3) ∧ w'.cell? ⟨g1, o1 + k * 6 + 4, none⟩ = some (.int .i64 u4) ∧ w'.cell? ⟨g1, o1 + k * 6 + 5, none⟩ = some (.slice ra u5 rc) ∧ w'.cell? ⟨g2, o2 + k * 6, none⟩ = some (.int .i64 v0) ∧ w'.cell? ⟨g2, o2 + k * 6 + 1, none⟩ = some (.int .i64 v1) ∧ w'.cell? ⟨g2, o2 + k * 6 + 2, none⟩ = some (.int .i64 v2) ∧ w'.cell? ⟨g2, o2 + k * 6 + 3, none⟩ = some (.int .i64 v3) ∧ w'.cell? ⟨g2, o2 + k * 6 + 4, none⟩ = some (.int .i64 v4) ∧ w'.cell? ⟨g2, o2 + k * 6 + 5, none⟩ = some (.slice rb v5 rd))) := fun w' hb => by
              have hz := HD.out.1.sz
              have z1 := World.block_lt_of_cell? wr _ s0
              have z2 := World.block_lt_of_cell? wr _ t0
              exact ⟨(hb.cell (by first | exact z1 | exact z2 | (show w.heap.size < wr.heap.size; omega) | (show w.heap.size + 1 < wr.heap.size; omega))).trans d18, (hb.cell (by first | exact z1 | exact z2 | (show w.heap.size < wr.heap.size; omega) | (show w.heap.size + 1 < wr.heap.size; omega))).trans f18, (hb.cell (by first | exact z1 | exact z2 | (show w.heap.size < wr.heap.size; omega) | (show w.heap.size + 1 < wr.heap.size; omega))).trans s0, (hb.cell (by first | exact z1 | exact z2 | (show w.heap.size < wr.heap.size; omega) | (show w.heap.size + 1 < wr.heap.size; omega))).trans s1, (hb.cell (by first | exact z1 | exact z2 | (show w.heap.size < wr.heap.size; omega) | (show w.heap.size + 1 < wr.heap.size; omega))).trans s2, (hb.cell (by first | exact z1 | exact z2 | (show w.heap.size < wr.heap.size; omega) | (show w.heap.size + 1 < wr.heap.size; omega))).trans s3, (hb.cell (by first | exact z1 | exact z2 | (show w.heap.size < wr.heap.size; omega) | (show w.heap.size + 1 < wr.heap.size; omega))).trans s4, (hb.cell (by first | exact z1 | exact z2 | (show w.heap.size < wr.heap.size; omega) | (show w.heap.size + 1 < wr.heap.size; omega))).trans s5, (hb.cell (by first | exact z1 | exact z2 | (show w.heap.size < wr.heap.size; omega) | (show w.heap.size + 1 < wr.heap.size; omega))).trans t0, (hb.cell (by first | exact z1 | exact z2 | (show w.heap.size < wr.heap.size; omega) | (show w.heap.size + 1 < wr.heap.size; omega))).trans t1, (hb.cell (by first | exact z1 | exact z2 | (show w.heap.size < wr.heap.size; omega) | (show w.heap.size + 1 < wr.heap.size; omega))).trans t2, (hb.cell (by first | exact z1 | exact z2 | (show w.heap.size < wr.heap.size; omega) | (show w.heap.size + 1 < wr.heap.size; omega))).trans t3, (hb.cell (by first | exact z1 | exact z2 | (show w.heap.size < wr.heap.size; omega) | (show w.heap.size + 1 < wr.heap.size; omega))).trans t4, (hb.cell (by first | exact z1 | exact z2 | (show w.heap.size < wr.heap.size; omega) | (show w.heap.size + 1 < wr.heap.size; omega))).trans t5⟩
            go_wp2
            go_region_held3 (fun w' => w'.cell? ⟨w.heap.size, 18, none⟩ = some (.slice (some ⟨g1, o1, none⟩) x.bats.length bc) ∧ w'.cell? ⟨w.heap.size + 1, 18, none⟩ = some (.slice (some ⟨g2, o2, none⟩) x.bats.length qb) ∧ w'.cell? ⟨g1, o1 + k * 6, none⟩ = some (.int .i64 u0) ∧ w'.cell? ⟨g1, o1 + k * 6 + 1, none⟩ = some (.int .i64 u1) ∧ w'.cell? ⟨g1, o1 + k * 6 + 2, none⟩ = some (.int .i64 u2) ∧ w'.cell? ⟨g1, o1 + k * 6 + 3, none⟩ = some (.int .i64 u3) ∧ w'.cell? ⟨g1, o1 + k * 6 + 4, none⟩ = some (.int .i64 u4) ∧ w'.cell? ⟨g1, o1 + k * 6 + 5, none⟩ = some (.slice ra u5 rc) ∧ w'.cell? ⟨g2, o2 + k * 6, none⟩ = some (.int .i64 v0) ∧ w'.cell? ⟨g2, o2 + k * 6 + 1, none⟩ = some (.int .i64 v1) ∧ w'.cell? ⟨g2, o2 + k * 6 + 2, none⟩ = some (.int .i64 v2) ∧ w'.cell? ⟨g2, o2 + k * 6 + 3, none⟩ = some (.int .i64 v3) ∧ w'.cell? ⟨g2, o2 + k * 6 + 4, none⟩ = some (.int .i64 v4) ∧ w'.cell? ⟨g2, o2 + k * 6 + 5, none⟩ = some (.slice rb v5 rd)) (first | go_keep | exact KB.out _ (by assumption))
              (first
              | (go_at_call 31; refine (H31.out _ rfl).mono ?_; rintro e w4 ⟨r, rfl, hr, hb4⟩)
              | fail)
            have HD4 := hid (HD.out.1.drew.next hb4)
            clear hb4 s0 s1 s2 s3 s4 s5 t0 t1 t2 t3 t4 t5 d18 f18
            cases r with
            | true =>
              have hq : x.bats[k] = y.bats[k] := by rw [← HQ.out]; exact hr.1 rfl
              have hnx := hid (get_next HD.out.2 hlt hlty hq)
              clear hq hr
              go_wp2
              go_roundw
              case rel => exact ⟨k + 1, by omega, by go_num, HD4.out, hnx.out⟩
              case measure => simp [intOf]; omega
            | false =>
              have hno : Hid (¬ P) := fun h => by
                have h2 : Q := by rw [HQ.out]; simp only [NO.out h]
                exact Bool.false_ne_true (hr.2 h2)
              clear hr
              go_wp2
              go_ret
              exact Told.no hno.out HD4.out.below
        · have hlt' : ¬ (k : Int) < (x.bats.length : Int) := by omega
          have HBs := hid (all_of_get HD.out.2 (by omega) (by rw [← HLn.out.1]; omega))
          have HW := hid HD.out.1
          clear HD
          go_wp2
          go_loopw [10] (fun i wx => ∃ k : Nat, k ≤ x.ents.length ∧ i = .int .i64 k ∧ Hid (SgAt w #[.int .i64 x.kind, .int .i64 x.n0, .int .i64 x.n1, .int .i64 x.n2, .int .i64 x.n3, .int .i64 x.n4, .int .i64 x.n5, .int .i64 x.n6, .int .i64 x.n7, .int .i64 x.n8, .int .i64 x.n9, .int .i64 x.n10, .int .i64 x.n11, .int .i64 x.n12, .int .i64 x.n13, .int .i64 x.err, .string (strOf x.name), .string (strOf x.text), .slice ba x.bats.length bc, .slice ea x.ents.length ec, .slice ia x.ints.length ic] #[.int .i64 y.kind, .int .i64 y.n0, .int .i64 y.n1, .int .i64 y.n2, .int .i64 y.n3, .int .i64 y.n4, .int .i64 y.n5, .int .i64 y.n6, .int .i64 y.n7, .int .i64 y.n8, .int .i64 y.n9, .int .i64 y.n10, .int .i64 y.n11, .int .i64 y.n12, .int .i64 y.n13, .int .i64 y.err, .string (strOf y.name), .string (strOf y.text), .slice pb y.bats.length qb, .slice pe y.ents.length qe, .slice pi y.ints.length qi] #[.int .i64 x.n0, .int .i64 x.n1, .int .i64 x.n2, .int .i64 x.n3, .int .i64 x.n4, .int .i64 x.n5, .int .i64 x.n6, .int .i64 x.n7, .int .i64 x.n8, .int .i64 x.n9, .int .i64 x.n10, .int .i64 x.n11, .int .i64 x.n12, .int .i64 x.n13] #[.int .i64 y.n0, .int .i64 y.n1, .int .i64 y.n2, .int .i64 y.n3, .int .i64 y.n4, .int .i64 y.n5, .int .i64 y.n6, .int .i64 y.n7, .int .i64 y.n8, .int .i64 y.n9, .int .i64 y.n10, .int .i64 y.n11, .int .i64 y.n12, .int .i64 y.n13] wx ∧ ∀ t, t < k → x.ents[t]? = y.ents[t]?)) (fun i _ => x.ents.length - (intOf i).toNat)
          case atStart => exact ⟨0, by omega, rfl, HW.out, fun t ht => by omega⟩
          case round =>
            obtain ⟨k, hk, rfl, HD⟩ := hrel
            clear d18 f18 d19 f19 d20 f20 HW hlt'
            obtain ⟨d0, d1, d2, d3, d4, d5, d6, d7, d8, d9, d10, d11, d12, d13, d14, d15, d16, d17, d18, d19, d20⟩ := mcells HD.out.1.b0
            obtain ⟨f0, f1, f2, f3, f4, f5, f6, f7, f8, f9, f10, f11, f12, f13, f14, f15, f16, f17, f18, f19, f20⟩ := mcells HD.out.1.b1
            clear d0 d1 d2 d3 d4 d5 d6 d7 d8 d9 d10 d11 d12 d13 d14 d15 d16 d17 d18 f0 f1 f2 f3 f4 f5 f6 f7 f8 f9 f10 f11 f12 f13 f14 f15 f16 f17 f18
            rw [← HLn.out.2.1] at f19
            rw [← HLn.out.2.2] at f20
            by_cases hlt : k < x.ents.length
            · have hlt' : (k : Int) < (x.ents.length : Int) := by omega
              have i0 : (0 : Int) ≤ (k : Int) := by omega
              have hlty : k < y.ents.length := by rw [← HLn.out.2.1]; exact hlt
              obtain ⟨g1, o1, h1, s0, s1, s2⟩ := (HX.out.1.ents.under HD.out.1.below).at k hlt
              obtain ⟨g2, o2, h2, t0, t1, t2⟩ := (HX.out.2.ents.under HD.out.1.below).at k hlty
              subst h1
              subst h2
              by_cases heq : x.ents[k] = y.ents[k]
              · have hq := neq52 (strOf x.ents[k].data) x.ents[k].term x.ents[k].index
                rw [← heq] at t0 t1 t2
                have hnx := hid (get_next HD.out.2 hlt hlty heq)
                clear heq
                generalize x.ents[k].term = u0 at *
                generalize x.ents[k].index = u1 at *
                generalize strOf x.ents[k].data = u2 at *
                go_wp2
                go_quiet (fail)
                go_wp2
                go_roundw
                case rel => exact ⟨k + 1, by omega, by go_num, HD.out.1.drewN _, hnx.out⟩
                case measure => simp [intOf]; omega
              · have hq := neq52_not (strOf x.ents[k].data) (strOf y.ents[k].data) x.ents[k].term x.ents[k].index y.ents[k].term y.ents[k].index (fun ⟨z1, z2, z3⟩ => heq (ent_ext z1 z2 (strOf_inj z3)))
                have hno : Hid (¬ P) := fun h => heq (by simp only [NO.out h])
                clear heq
                generalize x.ents[k].term = u0 at *
                generalize x.ents[k].index = u1 at *
                generalize strOf x.ents[k].data = u2 at *
                generalize y.ents[k].term = v0 at *
                generalize y.ents[k].index = v1 at *
                generalize strOf y.ents[k].data = v2 at *
                go_wp2
                go_quiet (fail)
                go_wp2
                go_ret
                exact Told.no hno.out (below_drewN HD.out.1.below _)
            · have hlt' : ¬ (k : Int) < (x.ents.length : Int) := by omega
              have HEs := hid (all_of_get HD.out.2 (by omega) (by rw [← HLn.out.2.1]; omega))
              have HW := hid HD.out.1
              clear HD
              go_wp2
              go_loopw [11] (fun i wx => ∃ k : Nat, k ≤ x.ints.length ∧ i = .int .i64 k ∧ Hid (SgAt w #[.int .i64 x.kind, .int .i64 x.n0, .int .i64 x.n1, .int .i64 x.n2, .int .i64 x.n3, .int .i64 x.n4, .int .i64 x.n5, .int .i64 x.n6, .int .i64 x.n7, .int .i64 x.n8, .int .i64 x.n9, .int .i64 x.n10, .int .i64 x.n11, .int .i64 x.n12, .int .i64 x.n13, .int .i64 x.err, .string (strOf x.name), .string (strOf x.text), .slice ba x.bats.length bc, .slice ea x.ents.length ec, .slice ia x.ints.length ic] #[.int .i64 y.kind, .int .i64 y.n0, .int .i64 y.n1, .int .i64 y.n2, .int .i64 y.n3, .int .i64 y.n4, .int .i64 y.n5, .int .i64 y.n6, .int .i64 y.n7, .int .i64 y.n8, .int .i64 y.n9, .int .i64 y.n10, .int .i64 y.n11, .int .i64 y.n12, .int .i64 y.n13, .int .i64 y.err, .string (strOf y.name), .string (strOf y.text), .slice pb y.bats.length qb, .slice pe y.ents.length qe, .slice pi y.ints.length qi] #[.int .i64 x.n0, .int .i64 x.n1, .int .i64 x.n2, .int .i64 x.n3, .int .i64 x.n4, .int .i64 x.n5, .int .i64 x.n6, .int .i64 x.n7, .int .i64 x.n8, .int .i64 x.n9, .int .i64 x.n10, .int .i64 x.n11, .int .i64 x.n12, .int .i64 x.n13] #[.int .i64 y.n0, .int .i64 y.n1, .int .i64 y.n2, .int .i64 y.n3, .int .i64 y.n4, .int .i64 y.n5, .int .i64 y.n6, .int .i64 y.n7, .int .i64 y.n8, .int .i64 y.n9, .int .i64 y.n10, .int .i64 y.n11, .int .i64 y.n12, .int .i64 y.n13] wx ∧ ∀ t, t < k → x.ints[t]? = y.ints[t]?)) (fun i _ => x.ints.length - (intOf i).toNat)
              case atStart => exact ⟨0, by omega, rfl, HW.out, fun t ht => by omega⟩
              case round =>
                obtain ⟨k, hk, rfl, HD⟩ := hrel
                clear d19 f19 d20 f20 HW hlt'
                obtain ⟨d0, d1, d2, d3, d4, d5, d6, d7, d8, d9, d10, d11, d12, d13, d14, d15, d16, d17, d18, d19, d20⟩ := mcells HD.out.1.b0
                obtain ⟨f0, f1, f2, f3, f4, f5, f6, f7, f8, f9, f10, f11, f12, f13, f14, f15, f16, f17, f18, f19, f20⟩ := mcells HD.out.1.b1
                clear d0 d1 d2 d3 d4 d5 d6 d7 d8 d9 d10 d11 d12 d13 d14 d15 d16 d17 d18 d19 f0 f1 f2 f3 f4 f5 f6 f7 f8 f9 f10 f11 f12 f13 f14 f15 f16 f17 f18 f19
                rw [← HLn.out.2.2] at f20
                by_cases hlt : k < x.ints.length
                · have hlt' : (k : Int) < (x.ints.length : Int) := by omega
                  have i0 : (0 : Int) ≤ (k : Int) := by omega
                  have hlty : k < y.ints.length := by rw [← HLn.out.2.2]; exact hlt
                  obtain ⟨g1, o1, h1, s0⟩ := (HX.out.1.ints.up HD.out.1.below).at k hlt
                  obtain ⟨g2, o2, h2, t0⟩ := (HX.out.2.ints.up HD.out.1.below).at k hlty
                  subst h1
                  subst h2
                  by_cases heq : x.ints[k] = y.ints[k]
                  · rw [← heq] at t0
                    have hnx := hid (get_next HD.out.2 hlt hlty heq)
                    clear heq
                    generalize x.ints[k] = u0 at *
                    go_wp2
                    go_quiet (fail)
                    go_wp2
                    go_roundw
                    case rel => exact ⟨k + 1, by omega, by go_num, HD.out.1.drewN _, hnx.out⟩
                    case measure => simp [intOf]; omega
                  · have hno : Hid (¬ P) := fun h => heq (by simp only [NO.out h])
                    generalize x.ints[k] = u0 at *
                    generalize y.ints[k] = v0 at *
                    have q : (u0 != v0) = true := by simpa using heq
                    go_wp2
                    go_quiet (fail)
                    go_wp2
                    go_ret
                    exact Told.no hno.out (below_drewN HD.out.1.below _)
                · have hlt' : ¬ (k : Int) < (x.ints.length : Int) := by omega
                  have HIs := hid (all_of_get HD.out.2 (by omega) (by rw [← HLn.out.2.2]; omega))
                  go_wp2
                  go_ret
                  exact Told.yes (YES.out HN.out HS.out.1 HS.out.2.1 HS.out.2.2.1 HS.out.2.2.2 HBs.out HEs.out HIs.out) HD.out.1.below
end Go.Proofs.YtocdlaoklagdoaaDoor
