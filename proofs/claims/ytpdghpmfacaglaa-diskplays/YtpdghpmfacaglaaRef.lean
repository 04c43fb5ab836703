/- The document's own disk in memory: files in a list; what at and Free do. -/
import Derived.Test.YtpdghpmfacaglaaOne
namespace Go.Proofs.Ytpdghpmfacaglaa
open Go.RowKit Go.Maps Go.Sort
set_option maxRecDepth 100000
set_option linter.unusedSimpArgs false
set_option linter.unusedVariables false

def fcells (x : AF) : List Value := [.string (strOf x.name), .string (strOf x.bs), .int .i64 (x.safe : Int)]
def flat : List AF → List Value
  | [] => []
  | x :: r => fcells x ++ flat r

theorem flat_length : ∀ l : List AF, (flat l).length = l.length * 3
  | [] => rfl
  | x :: r => by simp [flat, fcells, flat_length r]; omega

theorem flat_append : ∀ l m : List AF, flat (l ++ m) = flat l ++ flat m
  | [], m => rfl
  | x :: r, m => by simp [flat, flat_append r m]

theorem flat_at : ∀ (l : List AF) (i : Nat) (x : AF), l[i]? = some x → (flat l)[i * 3]? = some (.string (strOf x.name)) ∧ (flat l)[i * 3 + 1]? = some (.string (strOf x.bs)) ∧ (flat l)[i * 3 + 2]? = some (.int .i64 (x.safe : Int))
  | [], i, x, h => by simp at h
  | y :: r, 0, x, h => by simp at h; subst h; simp [flat, fcells]
  | y :: r, i + 1, x, h => by
    have ih := flat_at r i x (by simpa using h)
    have e : ∀ j, (flat (y :: r))[(i + 1) * 3 + j]? = (flat r)[i * 3 + j]? := fun j => by
      have e1 : (i + 1) * 3 + j = 3 + (i * 3 + j) := by omega
      rw [e1]
      show ([_, _, _] ++ flat r)[3 + (i * 3 + j)]? = _
      rw [List.getElem?_append_right (by simp)]
      congr 1
      simp
    refine ⟨?_, ?_, ?_⟩
    · have := e 0; simp only [Nat.add_zero] at this; rw [this]; exact ih.1
    · rw [e 1]; exact ih.2.1
    · rw [e 2]; exact ih.2.2

/-- The document's disk: block r, its files in a row, all its blocks among T. -/
structure RefM (w : World) (T : Nat → Prop) (r size : Nat) (v : Value) (l : List AF) : Prop where
  below : ∀ k, T k → k < w.heap.size
  self : T r
  cells : w.heap[r]? = some (.cells #[.int .i64 (size : Int), v] 59 (0, 0))
  row : w.ownsRow 0 62 3 v l.length (flat l)
  rowT : ∀ k, v.ownBlock = some k → T k

theorem RefM.shape {w : World} {T : Nat → Prop} {r size : Nat} {v : Value} {l : List AF} (h : RefM w T r size v l) : ∃ oa cap, v = .slice oa l.length cap ∧ l.length ≤ cap ∧ cap ≤ maxLen ∧ (0 < l.length → ∃ g, oa = some ⟨g, 0, none⟩) ∧ (∀ x, oa = some x → ∃ g, x = ⟨g, 0, none⟩) := by
  obtain ⟨_, ⟨e, h0⟩ | ⟨g, cap, cur, e, hb, hg, hn, hc, hs, ht⟩⟩ := h.row
  · exact ⟨none, 0, by rw [e, h0], by omega, Nat.zero_le _, fun h => by omega, fun x e => by cases e⟩
  · exact ⟨some ⟨g, 0, none⟩, cap, e, hn, hc, fun _ => ⟨g, rfl⟩, fun x e => ⟨g, by cases e; rfl⟩⟩

theorem RefM.c0 {w : World} {T : Nat → Prop} {r size : Nat} {v : Value} {l : List AF} (h : RefM w T r size v l) : w.cell? ⟨r, 0, none⟩ = some (.int .i64 (size : Int)) := by simp [World.cell?, h.cells]
theorem RefM.c1 {w : World} {T : Nat → Prop} {r size : Nat} {v : Value} {l : List AF} (h : RefM w T r size v l) : w.cell? ⟨r, 1, none⟩ = some v := by simp [World.cell?, h.cells]
theorem RefM.f1 {w : World} {T : Nat → Prop} {r size : Nat} {v : Value} {l : List AF} (h : RefM w T r size v l) : w.frozen? ⟨r, 1, none⟩ = false := by simp [World.frozen?, h.cells]

theorem RefM.at_ {w : World} {T : Nat → Prop} {r size g cap : Nat} {l : List AF} (h : RefM w T r size (.slice (some ⟨g, 0, none⟩) l.length cap) l) (i : Nat) (x : AF) (hx : l[i]? = some x) :
    w.cell? ⟨g, i * 3, none⟩ = some (.string (strOf x.name)) ∧ w.cell? ⟨g, i * 3 + 1, none⟩ = some (.string (strOf x.bs)) ∧ w.cell? ⟨g, i * 3 + 2, none⟩ = some (.int .i64 (x.safe : Int)) := by
  have hc := fun j u hu => h.row.cells (g := g) rfl j u hu
  have hadd : ∀ j, (⟨g, 0, none⟩ : Addr).add j = ⟨g, j, none⟩ := fun j => by unfold Addr.add; split <;> simp_all
  obtain ⟨h0, h1, h2⟩ := flat_at l i x hx
  refine ⟨?_, ?_, ?_⟩
  · have := hc _ _ h0; rw [hadd] at this; exact this
  · have := hc _ _ h1; rw [hadd] at this; exact this
  · have := hc _ _ h2; rw [hadd] at this; exact this

theorem RefM.kept {w w1 : World} {T : Nat → Prop} {r size : Nat} {v : Value} {l : List AF} (h : RefM w T r size v l) (hb : ∀ k, T k → w1.heap[k]? = w.heap[k]?) (hs : w.heap.size ≤ w1.heap.size) : RefM w1 T r size v l := by
  refine ⟨fun k hk => Nat.lt_of_lt_of_le (h.below k hk) hs, h.self, (hb r h.self).trans h.cells, ⟨h.row.1, ?_⟩, h.rowT⟩
  rcases h.row.2 with h0 | ⟨g, cap, cur, e, hb0, hg, rest⟩
  · exact .inl h0
  · exact .inr ⟨g, cap, cur, e, hb0, (hb g (h.rowT g (by rw [e]; rfl))).trans hg, rest⟩

theorem RefM.under {w w1 : World} {T : Nat → Prop} {r size : Nat} {v : Value} {l : List AF} (h : RefM w T r size v l) (hb : Below w.heap.size w w1) : RefM w1 T r size v l := h.kept (fun k hk => hb.block k (h.below k hk)) hb.size

theorem strOf_toL (l : List UInt8) : (strOf l).toList = l := by
  rw [Lib.toList_data]
  simp [strOf]

theorem strOf_eq (l : List UInt8) (n : ByteArray) : ((strOf l).toList == n.toList) = (l == n.data.toList) := by
  rw [strOf_toL, Lib.toList_data]

/-- Where a name stands. -/
def idx (l : List AF) (n : List UInt8) : Option Nat := l.findIdx? fun x => x.name == n
def idxI (l : List AF) (n : List UInt8) : Int := match idx l n with | some i => (i : Int) | none => -1

theorem idx_none_of {l : List AF} {n : List UInt8} (h : ∀ (j : Nat) (x : AF), l[j]? = some x → x.name ≠ n) : idx l n = none := by
  unfold idx
  rw [List.findIdx?_eq_none_iff]
  intro x hx
  obtain ⟨j, hj, rfl⟩ := List.getElem_of_mem hx
  simpa using h j _ (List.getElem?_eq_getElem hj)

theorem idx_some_of {l : List AF} {n : List UInt8} {k : Nat} (hk : k < l.length) (hn : l[k].name = n) (h : ∀ (j : Nat) (x : AF), j < k → l[j]? = some x → x.name ≠ n) : idx l n = some k := by
  unfold idx
  rw [List.findIdx?_eq_some_iff_getElem]
  refine ⟨hk, by simpa using hn, fun j hj => ?_⟩
  have hjl : j < l.length := by omega
  simpa using h j _ hj (List.getElem?_eq_getElem hjl)

set_option maxHeartbeats 800000 in
theorem at_any {w : World} {T : Nat → Prop} {r size : Nat} {v : Value} {l : List AF} (h : RefM w T r size v l) (hl : l.length ≤ 1000) (n : ByteArray) :
    Calls Try.prog 49 #[.pointer (some ⟨r, 0, none⟩), .string n] w fun e w' => e = .returned (.int .i64 (idxI l n.data.toList)) ∧ w' = w := by
  obtain ⟨oa, cap, rfl, hcap, hcm, hoa, _⟩ := h.shape
  have c1 := h.c1
  have H : Hid (RefM w T r size (.slice oa l.length cap) l) := h
  clear h
  go_enter Try.func49, Try.ntmps49
  go_wp2
  go_loop [5] (fun i0 => ∃ k : Nat, k ≤ l.length ∧ i0 = .int .i64 (k : Int) ∧ Hid (∀ j x, j < k → l[j]? = some x → x.name ≠ n.data.toList)) (fun i0 => l.length - (intOf i0).toNat)
  case atStart => exact ⟨0, Nat.zero_le _, rfl, fun j x hj => by omega⟩
  case round =>
    obtain ⟨k, hk, rfl, hI⟩ := hrel
    by_cases hlt : k < l.length
    · have hk' : (k : Int) < (l.length : Int) := by omega
      obtain ⟨g, rfl⟩ := hoa (by omega)
      have hxk : l[k]? = some l[k] := List.getElem?_eq_getElem hlt
      have p0 := (H.out.at_ k _ hxk).1
      by_cases hn : l[k].name = n.data.toList
      · have hfin : Hid (idxI l n.data.toList = (k : Int)) := by show _ = _; unfold idxI; rw [idx_some_of hlt hn hI.out]
        have t : ((strOf l[k].name).toList == n.toList) = true := by rw [strOf_eq]; simpa using hn
        generalize l[k] = x at *
        clear hxk hn
        go_wp2
        go_ret
        exact ⟨ret_int hfin.out.symm, rfl⟩
      · have t : ((strOf l[k].name).toList == n.toList) = false := by rw [strOf_eq]; simpa using hn
        have HN : Hid (∀ j x, j < k + 1 → l[j]? = some x → x.name ≠ n.data.toList) := fun j x hj hx => by
          by_cases e : j = k
          · subst e; rw [hxk] at hx; cases hx; exact hn
          · exact hI.out j x (by omega) hx
        generalize l[k] = x at *
        clear hxk hn
        go_wp2
        go_round
        case rel => exact ⟨k + 1, by omega, by go_num, HN⟩
        case measure => simp [intOf]; omega
    · have hk' : ¬ ((k : Int) < (l.length : Int)) := by omega
      have hfin : Hid (idxI l n.data.toList = -1) := by
        show _ = _; unfold idxI
        rw [idx_none_of (fun j x hx => hI.out j x (by have := (List.getElem?_eq_some_iff.1 hx).1; omega) hx)]
      go_wp2
      go_ret
      exact ⟨ret_int hfin.out.symm, rfl⟩

set_option maxHeartbeats 800000 in
theorem rfree_any {w : World} {T : Nat → Prop} {r size : Nat} {v : Value} {l : List AF} (h : RefM w T r size v l) (hl : l.length ≤ 1000) (ht : totalA l ≤ size) (hs : size ≤ 16777216) :
    Calls Try.prog 41 #[.pointer (some ⟨r, 0, none⟩)] w fun e w' => e = .returned (.int .i64 ((size - totalA l : Nat) : Int)) ∧ w' = w := by
  obtain ⟨oa, cap, rfl, hcap, hcm, hoa, _⟩ := h.shape
  have c0 := h.c0
  have c1 := h.c1
  have H : Hid (RefM w T r size (.slice oa l.length cap) l) := h
  clear h
  go_enter Try.func41, Try.ntmps41
  go_wp2
  go_loop [3, 4] (fun n0 i0 => ∃ k : Nat, k ≤ l.length ∧ i0 = .int .i64 (k : Int) ∧ n0 = .int .i64 ((size - totalA (l.take k) : Nat) : Int)) (fun _ i0 => l.length - (intOf i0).toNat)
  case atStart => exact ⟨0, Nat.zero_le _, rfl, rfl⟩
  case round =>
    obtain ⟨k, hk, rfl, rfl⟩ := hrel
    have htk : totalA (l.take k) ≤ totalA l := by
      have : ∀ (l : List AF) (k : Nat), totalA (l.take k) ≤ totalA l := by
        intro l
        induction l with
        | nil => intro k; simp
        | cons y r ih => intro k; cases k with
          | zero => simp [totalA]
          | succ k => have := ih k; simp only [List.take_succ_cons, totalA]; omega
      exact this l k
    by_cases hlt : k < l.length
    · have hk' : (k : Int) < (l.length : Int) := by omega
      obtain ⟨g, rfl⟩ := hoa (by omega)
      have hxk : l[k]? = some l[k] := List.getElem?_eq_getElem hlt
      have p1 := (H.out.at_ k _ hxk).2.1
      have hst : totalA (l.take (k + 1)) = totalA (l.take k) + l[k].bs.length := by
        rw [List.take_succ_eq_append_getElem hlt]
        have : ∀ a b : List AF, totalA (a ++ b) = totalA a + totalA b := by
          intro a b
          induction a with
          | nil => simp [totalA]
          | cons y r ih => simp only [List.cons_append, totalA, ih]; omega
        rw [this]; simp [totalA]
      have hst2 : totalA (l.take (k + 1)) ≤ totalA l := by
        have : ∀ (l : List AF) (k : Nat), totalA (l.take k) ≤ totalA l := by
          intro l
          induction l with
          | nil => intro k; simp
          | cons y r ih => intro k; cases k with
            | zero => simp [totalA]
            | succ k => have := ih k; simp only [List.take_succ_cons, totalA]; omega
        exact this l (k + 1)
      have hsz : (strOf l[k].bs).size = l[k].bs.length := by simp [strOf, ByteArray.size]
      generalize l[k] = x at *
      have HSt : Hid (totalA (l.take (k + 1)) = totalA (l.take k) + x.bs.length) := hst
      have hb : x.bs.length ≤ size - totalA (l.take k) := by omega
      clear hst hst2 hxk
      go_wp2
      go_round
      case rel => exact ⟨k + 1, by omega, by go_num, by rw [HSt.out]; go_num⟩
      case measure => simp [intOf]; omega
    · have hk' : ¬ ((k : Int) < (l.length : Int)) := by omega
      have e1 : l.take k = l := List.take_of_length_le (by omega)
      rw [e1]
      clear e1
      go_wp2
      go_ret
      exact ⟨rfl, rfl⟩
end Go.Proofs.Ytpdghpmfacaglaa
