/- The document's own disk in memory: files in a list; what at and Free do. -/
import Derived.Test.YtjggdecjnnpjaaaGreatH14
namespace Go.Proofs.YtjggdecjnnpjaaaGreat
open Go.RowKit Go.Maps Go.Sort
set_option maxRecDepth 100000
set_option linter.unusedSimpArgs false
set_option linter.unusedVariables false

def fcells (x : AF) : List Value := [.string (strOf x.name), .string (strOf x.bs), .int .i64 (x.safe : Int)]
def flat : List AF → List Value
  | [] => []
  | x :: r => fcells x ++ flat r

theorem flat_length : ∀ l : List AF, (flat l).length = l.length * 3
  | [] => rfl
  | x :: r => by simp [flat, fcells, flat_length r]; omega

theorem flat_append : ∀ l m : List AF, flat (l ++ m) = flat l ++ flat m
  | [], m => rfl
  | x :: r, m => by simp [flat, flat_append r m]

theorem flat_at : ∀ (l : List AF) (i : Nat) (x : AF), l[i]? = some x → (flat l)[i * 3]? = some (.string (strOf x.name)) ∧ (flat l)[i * 3 + 1]? = some (.string (strOf x.bs)) ∧ (flat l)[i * 3 + 2]? = some (.int .i64 (x.safe : Int))
  | [], i, x, h => by simp at h
  | y :: r, 0, x, h => by simp at h; subst h; simp [flat, fcells]
  | y :: r, i + 1, x, h => by
    have ih := flat_at r i x (by simpa using h)
    have e : ∀ j, (flat (y :: r))[(i + 1) * 3 + j]? = (flat r)[i * 3 + j]? := fun j => by
      have e1 : (i + 1) * 3 + j = 3 + (i * 3 + j) := by omega
      rw [e1]
      show ([_, _, _] ++ flat r)[3 + (i * 3 + j)]? = _
      rw [List.getElem?_append_right (by simp)]
      congr 1
      simp
    refine ⟨?_, ?_, ?_⟩
    · have := e 0; simp only [Nat.add_zero] at this; rw [this]; exact ih.1
    · rw [e 1]; exact ih.2.1
    · rw [e 2]; exact ih.2.2

/-- The document's disk: block r, its files in a row, all its blocks among T. -/
structure RefM (w : World) (T : Nat → Prop) (r size : Nat) (v : Value) (l : List AF) : Prop where
  below : ∀ k, T k → k < w.heap.size
  self : T r
  cells : w.heap[r]? = some (.cells #[.int .i64 (size : Int), v] 58 (0, 0))
  row : w.ownsRow 0 88 3 v l.length (flat l)
  rowT : ∀ k, v.ownBlock = some k → T k

theorem RefM.shape {w : World} {T : Nat → Prop} {r size : Nat} {v : Value} {l : List AF} (h : RefM w T r size v l) : ∃ oa cap, v = .slice oa l.length cap ∧ l.length ≤ cap ∧ cap ≤ maxLen ∧ (0 < l.length → ∃ g, oa = some ⟨g, 0, none⟩) ∧ (∀ x, oa = some x → ∃ g, x = ⟨g, 0, none⟩) := by
  obtain ⟨_, ⟨e, h0⟩ | ⟨g, cap, cur, e, hb, hg, hn, hc, hs, ht⟩⟩ := h.row
  · exact ⟨none, 0, by rw [e, h0], by omega, Nat.zero_le _, fun h => by omega, fun x e => by cases e⟩
  · exact ⟨some ⟨g, 0, none⟩, cap, e, hn, hc, fun _ => ⟨g, rfl⟩, fun x e => ⟨g, by cases e; rfl⟩⟩

theorem RefM.c0 {w : World} {T : Nat → Prop} {r size : Nat} {v : Value} {l : List AF} (h : RefM w T r size v l) : w.cell? ⟨r, 0, none⟩ = some (.int .i64 (size : Int)) := by simp [World.cell?, h.cells]
theorem RefM.c1 {w : World} {T : Nat → Prop} {r size : Nat} {v : Value} {l : List AF} (h : RefM w T r size v l) : w.cell? ⟨r, 1, none⟩ = some v := by simp [World.cell?, h.cells]
theorem RefM.f1 {w : World} {T : Nat → Prop} {r size : Nat} {v : Value} {l : List AF} (h : RefM w T r size v l) : w.frozen? ⟨r, 1, none⟩ = false := by simp [World.frozen?, h.cells]

theorem RefM.at_ {w : World} {T : Nat → Prop} {r size g cap : Nat} {l : List AF} (h : RefM w T r size (.slice (some ⟨g, 0, none⟩) l.length cap) l) (i : Nat) (x : AF) (hx : l[i]? = some x) :
    w.cell? ⟨g, i * 3, none⟩ = some (.string (strOf x.name)) ∧ w.cell? ⟨g, i * 3 + 1, none⟩ = some (.string (strOf x.bs)) ∧ w.cell? ⟨g, i * 3 + 2, none⟩ = some (.int .i64 (x.safe : Int)) := by
  have hc := fun j u hu => h.row.cells (g := g) rfl j u hu
  have hadd : ∀ j, (⟨g, 0, none⟩ : Addr).add j = ⟨g, j, none⟩ := fun j => by unfold Addr.add; split <;> simp_all
  obtain ⟨h0, h1, h2⟩ := flat_at l i x hx
  refine ⟨?_, ?_, ?_⟩
  · have := hc _ _ h0; rw [hadd] at this; exact this
  · have := hc _ _ h1; rw [hadd] at this; exact this
  · have := hc _ _ h2; rw [hadd] at this; exact this

theorem RefM.kept {w w1 : World} {T : Nat → Prop} {r size : Nat} {v : Value} {l : List AF} (h : RefM w T r size v l) (hb : ∀ k, T k → w1.heap[k]? = w.heap[k]?) (hs : w.heap.size ≤ w1.heap.size) : RefM w1 T r size v l := by
  refine ⟨fun k hk => Nat.lt_of_lt_of_le (h.below k hk) hs, h.self, (hb r h.self).trans h.cells, ⟨h.row.1, ?_⟩, h.rowT⟩
  rcases h.row.2 with h0 | ⟨g, cap, cur, e, hb0, hg, rest⟩
  · exact .inl h0
  · exact .inr ⟨g, cap, cur, e, hb0, (hb g (h.rowT g (by rw [e]; rfl))).trans hg, rest⟩

theorem RefM.under {w w1 : World} {T : Nat → Prop} {r size : Nat} {v : Value} {l : List AF} (h : RefM w T r size v l) (hb : Below w.heap.size w w1) : RefM w1 T r size v l := h.kept (fun k hk => hb.block k (h.below k hk)) hb.size

theorem strOf_toL (l : List UInt8) : (strOf l).toList = l := by
  rw [Lib.toList_data]
  simp [strOf]

theorem dstrOf_eq (l : List UInt8) (n : ByteArray) : ((strOf l).toList == n.toList) = (l == n.data.toList) := by
  rw [strOf_toL, Lib.toList_data]

/-- Where a name stands. -/
def idx (l : List AF) (n : List UInt8) : Option Nat := l.findIdx? fun x => x.name == n
def idxI (l : List AF) (n : List UInt8) : Int := match idx l n with | some i => (i : Int) | none => -1

theorem idx_none_of {l : List AF} {n : List UInt8} (h : ∀ (j : Nat) (x : AF), l[j]? = some x → x.name ≠ n) : idx l n = none := by
  unfold idx
  rw [List.findIdx?_eq_none_iff]
  intro x hx
  obtain ⟨j, hj, rfl⟩ := List.getElem_of_mem hx
  simpa using h j _ (List.getElem?_eq_getElem hj)

theorem idx_some_of {l : List AF} {n : List UInt8} {k : Nat} (hk : k < l.length) (hn : l[k].name = n) (h : ∀ (j : Nat) (x : AF), j < k → l[j]? = some x → x.name ≠ n) : idx l n = some k := by
  unfold idx
  rw [List.findIdx?_eq_some_iff_getElem]
  refine ⟨hk, by simpa using hn, fun j hj => ?_⟩
  have hjl : j < l.length := by omega
  simpa using h j _ hj (List.getElem?_eq_getElem hjl)

set_option maxHeartbeats 800000 in
theorem at_any {w : World} {T : Nat → Prop} {r size : Nat} {v : Value} {l : List AF} (h : RefM w T r size v l) (hl : l.length ≤ 1000) (n : ByteArray) :
    Calls Tryz.prog 45 #[.pointer (some ⟨r, 0, none⟩), .string n] w fun e w' => e = .returned (.int .i64 (idxI l n.data.toList)) ∧ w' = w := by
  obtain ⟨oa, cap, rfl, hcap, hcm, hoa, _⟩ := h.shape
  have c1 := h.c1
  have H : Hid (RefM w T r size (.slice oa l.length cap) l) := h
  clear h
  go_enter Tryz.func45, Tryz.ntmps45
  go_wp2
  go_loop [5] (fun i0 => ∃ k : Nat, k ≤ l.length ∧ i0 = .int .i64 (k : Int) ∧ Hid (∀ j x, j < k → l[j]? = some x → x.name ≠ n.data.toList)) (fun i0 => l.length - (intOf i0).toNat)
  case atStart => exact ⟨0, Nat.zero_le _, rfl, fun j x hj => by omega⟩
  case round =>
    obtain ⟨k, hk, rfl, hI⟩ := hrel
    by_cases hlt : k < l.length
    · have hk' : (k : Int) < (l.length : Int) := by omega
      obtain ⟨g, rfl⟩ := hoa (by omega)
      have hxk : l[k]? = some l[k] := List.getElem?_eq_getElem hlt
      have p0 := (H.out.at_ k _ hxk).1
      by_cases hn : l[k].name = n.data.toList
      · have hfin : Hid (idxI l n.data.toList = (k : Int)) := by show _ = _; unfold idxI; rw [idx_some_of hlt hn hI.out]
        have t : ((strOf l[k].name).toList == n.toList) = true := by rw [dstrOf_eq]; simpa using hn
        generalize l[k] = x at *
        clear hxk hn
        go_wp2
        go_ret
        exact ⟨ret_int hfin.out.symm, rfl⟩
      · have t : ((strOf l[k].name).toList == n.toList) = false := by rw [dstrOf_eq]; simpa using hn
        have HN : Hid (∀ j x, j < k + 1 → l[j]? = some x → x.name ≠ n.data.toList) := fun j x hj hx => by
          by_cases e : j = k
          · subst e; rw [hxk] at hx; cases hx; exact hn
          · exact hI.out j x (by omega) hx
        generalize l[k] = x at *
        clear hxk hn
        go_wp2
        go_round
        case rel => exact ⟨k + 1, by omega, by go_num, HN⟩
        case measure => simp [intOf]; omega
    · have hk' : ¬ ((k : Int) < (l.length : Int)) := by omega
      have hfin : Hid (idxI l n.data.toList = -1) := by
        show _ = _; unfold idxI
        rw [idx_none_of (fun j x hx => hI.out j x (by have := (List.getElem?_eq_some_iff.1 hx).1; omega) hx)]
      go_wp2
      go_ret
      exact ⟨ret_int hfin.out.symm, rfl⟩

set_option maxHeartbeats 800000 in
theorem rfree_any {w : World} {T : Nat → Prop} {r size : Nat} {v : Value} {l : List AF} (h : RefM w T r size v l) (hl : l.length ≤ 1000) (ht : totalA l ≤ size) (hs : size ≤ 16777216) :
    Calls Tryz.prog 71 #[.pointer (some ⟨r, 0, none⟩)] w fun e w' => e = .returned (.int .i64 ((size - totalA l : Nat) : Int)) ∧ w' = w := by
  obtain ⟨oa, cap, rfl, hcap, hcm, hoa, _⟩ := h.shape
  have c0 := h.c0
  have c1 := h.c1
  have H : Hid (RefM w T r size (.slice oa l.length cap) l) := h
  clear h
  go_enter Tryz.func71, Tryz.ntmps71
  go_wp2
  go_loop [3, 4] (fun n0 i0 => ∃ k : Nat, k ≤ l.length ∧ i0 = .int .i64 (k : Int) ∧ n0 = .int .i64 ((size - totalA (l.take k) : Nat) : Int)) (fun _ i0 => l.length - (intOf i0).toNat)
  case atStart => exact ⟨0, Nat.zero_le _, rfl, rfl⟩
  case round =>
    obtain ⟨k, hk, rfl, rfl⟩ := hrel
    have htk : totalA (l.take k) ≤ totalA l := by
      have : ∀ (l : List AF) (k : Nat), totalA (l.take k) ≤ totalA l := by
        intro l
        induction l with
        | nil => intro k; simp
        | cons y r ih => intro k; cases k with
          | zero => simp [totalA]
          | succ k => have := ih k; simp only [List.take_succ_cons, totalA]; omega
      exact this l k
    by_cases hlt : k < l.length
    · have hk' : (k : Int) < (l.length : Int) := by omega
      obtain ⟨g, rfl⟩ := hoa (by omega)
      have hxk : l[k]? = some l[k] := List.getElem?_eq_getElem hlt
      have p1 := (H.out.at_ k _ hxk).2.1
      have hst : totalA (l.take (k + 1)) = totalA (l.take k) + l[k].bs.length := by
        rw [List.take_succ_eq_append_getElem hlt]
        have : ∀ a b : List AF, totalA (a ++ b) = totalA a + totalA b := by
          intro a b
          induction a with
          | nil => simp [totalA]
          | cons y r ih => simp only [List.cons_append, totalA, ih]; omega
        rw [this]; simp [totalA]
      have hst2 : totalA (l.take (k + 1)) ≤ totalA l := by
        have : ∀ (l : List AF) (k : Nat), totalA (l.take k) ≤ totalA l := by
          intro l
          induction l with
          | nil => intro k; simp
          | cons y r ih => intro k; cases k with
            | zero => simp [totalA]
            | succ k => have := ih k; simp only [List.take_succ_cons, totalA]; omega
        exact this l (k + 1)
      have hsz : (strOf l[k].bs).size = l[k].bs.length := by simp [strOf, ByteArray.size]
      generalize l[k] = x at *
      have HSt : Hid (totalA (l.take (k + 1)) = totalA (l.take k) + x.bs.length) := hst
      have hb : x.bs.length ≤ size - totalA (l.take k) := by omega
      clear hst hst2 hxk
      go_wp2
      go_round
      case rel => exact ⟨k + 1, by omega, by go_num, by rw [HSt.out]; go_num⟩
      case measure => simp [intOf]; omega
    · have hk' : ¬ ((k : Int) < (l.length : Int)) := by omega
      have e1 : l.take k = l := List.take_of_length_le (by omega)
      rw [e1]
      clear e1
      go_wp2
      go_ret
      exact ⟨rfl, rfl⟩
end Go.Proofs.YtjggdecjnnpjaaaGreat

/- What drop and put of the document's disk do. -/
namespace Go.Proofs.YtjggdecjnnpjaaaGreat
open Go.RowKit Go.Maps Go.Sort
set_option maxRecDepth 100000
set_option linter.unusedSimpArgs false
set_option linter.unusedVariables false

theorem info62 : (Tryz.prog.info? 88).map (fun i => (i.zero, i.size, i.bytes)) = some (some (.agg #[.string ByteArray.empty, .string ByteArray.empty, .int .i64 0]), 3, 40) := by kernel_rfl

theorem flat_oneCell : ∀ l : List AF, ∀ u ∈ flat l, u.oneCell' = true
  | [], u, hu => by cases hu
  | x :: r, u, hu => by
    simp only [flat, List.mem_append] at hu
    rcases hu with hu | hu
    · simp [fcells] at hu
      rcases hu with rfl | rfl | rfl <;> rfl
    · exact flat_oneCell r u hu

theorem flat_take : ∀ (l : List AF) (i : Nat), flat (l.take i) = (flat l).take (i * 3)
  | [], i => by simp [flat]
  | x :: r, 0 => by simp [flat]
  | x :: r, i + 1 => by
    have e : (i + 1) * 3 = 3 + i * 3 := by omega
    rw [List.take_succ_cons, e]
    show fcells x ++ flat (r.take i) = (fcells x ++ flat r).take (3 + i * 3)
    rw [List.take_append, flat_take r i]
    have e2 : (fcells x).take (3 + i * 3) = fcells x := List.take_of_length_le (by simp [fcells])
    rw [e2]
    simp [fcells]

theorem flat_drop : ∀ (l : List AF) (i : Nat), flat (l.drop i) = (flat l).drop (i * 3)
  | [], i => by simp [flat]
  | x :: r, 0 => by simp [flat]
  | x :: r, i + 1 => by
    have e : (i + 1) * 3 = 3 + i * 3 := by omega
    rw [List.drop_succ_cons, e]
    show flat (r.drop i) = (fcells x ++ flat r).drop (3 + i * 3)
    rw [List.drop_append, flat_drop r i]
    have e2 : (fcells x).drop (3 + i * 3) = [] := List.drop_of_length_le (by simp [fcells])
    rw [e2]
    simp [fcells]


/-- The cells of a part of the row. -/
theorem row_news {w : World} {T : Nat → Prop} {r size g cap : Nat} {l : List AF} (h : RefM w T r size (.slice (some ⟨g, 0, none⟩) l.length cap) l) (o : Nat) (news : List Value) (hn : ∀ j u, news[j]? = some u → (flat l)[o + j]? = some u) :
    ∀ j u, news[j]? = some u → w.cell? ((⟨g, o, none⟩ : Addr).add j) = some u := by
  intro j u hu
  have hadd : (⟨g, o, none⟩ : Addr).add j = ⟨g, o + j, none⟩ := by unfold Addr.add; split <;> simp_all
  have h0 : (⟨g, 0, none⟩ : Addr).add (o + j) = ⟨g, o + j, none⟩ := by unfold Addr.add; split <;> simp_all
  have := h.row.cells (g := g) rfl (o + j) u (hn j u hu)
  rw [h0] at this
  rw [hadd]
  exact this

theorem row3_shape {w : World} {base n : Nat} {v : Value} {xs : List Value} (h : w.ownsRow base 88 3 v n xs) : ∃ oa cap, v = .slice oa n cap := by
  obtain ⟨_, ⟨e, h0⟩ | ⟨g, cap, cur, e, _⟩⟩ := h
  · exact ⟨none, 0, by rw [e, h0]⟩
  · exact ⟨_, cap, e⟩

/-- What a call leaves of the document's disk. -/
def RAfter (T : Nat → Prop) (w w' : World) (r size : Nat) (l : List AF) : Prop :=
  ∃ T' v', RefM w' T' r size v' l ∧ (∀ k, T' k → T k ∨ w.heap.size ≤ k) ∧ (∀ k, T k → T' k) ∧ Keeps T w w'

/-- A new row stored in the disk's second cell. -/
theorem RAfter.stored {w w2 : World} {T : Nat → Prop} {r size : Nat} {v v2 : Value} {l l' : List AF} (h : RefM w T r size v l) (hk : ∀ k, k < w.heap.size → w2.heap[k]? = w.heap[k]?) (hw : w2.os = w.os ∧ w2.tape = w.tape ∧ w2.output = w.output) (hs : w.heap.size ≤ w2.heap.size)
    (ho : w2.ownsRow w.heap.size 88 3 v2 l'.length (flat l')) : RAfter T w (w2.setCell ⟨r, 1, none⟩ v2) r size l' := by
  have hrl := h.below r h.self
  have hsz : (w2.setCell ⟨r, 1, none⟩ v2).heap.size = w2.heap.size := by simp [World.setCell]
  have hoth : ∀ k, k ≠ r → (w2.setCell ⟨r, 1, none⟩ v2).heap[k]? = w2.heap[k]? := fun k hk => Below.heap_setCell w2 _ _ k hk
  have hcr : (w2.setCell ⟨r, 1, none⟩ v2).heap[r]? = some (.cells #[.int .i64 (size : Int), v2] 58 (0, 0)) := by
    simp [World.setCell, Array.getElem?_modify, hk r hrl, h.cells]
  refine ⟨fun k => T k ∨ (w.heap.size ≤ k ∧ k < w2.heap.size), v2, ⟨fun k hk' => ?_, .inl h.self, hcr, ⟨ho.1, ?_⟩, fun k hk' => .inr ⟨(ho.lt k hk').1, (ho.lt k hk').2⟩⟩, fun k hk' => ?_, fun k hk' => .inl hk', ⟨hw.1, hw.2.1, hw.2.2, by omega, fun k hkl hT => (hoth k (fun e => hT (by rw [e]; exact h.self))).trans (hk k hkl)⟩⟩
  · rcases hk' with h1 | h1
    · have := h.below k h1; omega
    · omega
  · rcases ho.2 with h0 | ⟨g, cap, cur, e, hb0, hg, rest⟩
    · exact .inl h0
    · exact .inr ⟨g, cap, cur, e, Nat.zero_le _, (hoth g (by omega)).trans hg, rest⟩
  · rcases hk' with h1 | h1
    · exact .inl h1
    · exact .inr h1.1

set_option maxHeartbeats 500000 in
theorem drop_walk {w : World} {T : Nat → Prop} {r size g cap : Nat} {l : List AF} (h : RefM w T r size (.slice (some ⟨g, 0, none⟩) l.length cap) l) (hl : l.length ≤ 1000) (hcap : l.length ≤ cap) (hcm : cap ≤ 9223372036854775807) (i : Nat) (hi : i < l.length) :
    Calls Tryz.prog 72 #[.pointer (some ⟨r, 0, none⟩), .int .i64 (i : Int)] w fun e w' => e = .returned (.tuple #[]) ∧ RAfter T w w' r size (l.take i ++ l.drop (i + 1)) := by
  obtain ⟨i0, hi0, hz0, hz1, hz2⟩ := info_parts info62
  have hrl := h.below r h.self
  have c1 := h.c1
  have ca : ∀ o, (w.alloc o).cell? ⟨r, 1, none⟩ = some (.slice (some ⟨g, 0, none⟩) l.length cap) := fun o => (World.cell?_of_block (a := ⟨r, 1, none⟩) (Below.heap_alloc w o r hrl)).trans c1
  have hii : (i : Int) ≤ (l.length : Int) := by omega
  have hic : i ≤ cap := by omega
  have hadd : ∀ o j, (⟨g, o, none⟩ : Addr).add j = ⟨g, o + j, none⟩ := fun o j => by unfold Addr.add; split <;> simp_all
  have HA1 : Hid (∀ o, ∀ j u, (flat (l.take i))[j]? = some u → (w.alloc o).cell? ((⟨g, 0, none⟩ : Addr).add j) = some u) := fun o => row_news (h.under ((Below.refl _ _).alloc (Nat.le_refl _) _)) 0 _ (fun j u hu => by
    rw [flat_take, List.getElem?_take] at hu
    split at hu
    · rw [Nat.zero_add]; exact hu
    · cases hu)
  have hlt : (flat (l.take i)).length = i * 3 := by rw [flat_length, List.length_take]; congr 1; omega
  have hgw : g < w.heap.size := h.below g (h.rowT g rfl)
  have HC : Hid (∀ w1 : World, (∀ k, k < w.heap.size → w1.heap[k]? = w.heap[k]?) → w1.cell? ⟨r, 1, none⟩ = some (.slice (some ⟨g, 0, none⟩) l.length cap) ∧ w1.frozen? ⟨r, 1, none⟩ = false) := fun w1 hk =>
    ⟨(World.cell?_of_block (a := ⟨r, 1, none⟩) (hk r hrl)).trans c1, (World.frozen?_of_block (a := ⟨r, 1, none⟩) (hk r hrl)).trans h.f1⟩
  have HB : Hid (∀ w1 : World, (w.alloc (.cells #[] 88)).grownBy w1 (some w.heap.size) → ∀ k, k < w.heap.size → w1.heap[k]? = w.heap[k]?) := fun w1 hg k hk => (hg.block k (by simp; omega) (by simp; omega)).trans (Below.heap_alloc w _ k hk)
  have hi1 : (i : Int) + 1 ≤ (l.length : Int) := by omega
  have hld : (flat (l.drop (i + 1))).length = (l.length - (i + 1)) * 3 := by rw [flat_length, List.length_drop]
  have HA2g : ∀ w1 : World, (∀ k, k < w.heap.size → w1.heap[k]? = w.heap[k]?) → ∀ j u, (flat (l.drop (i + 1)))[j]? = some u → w1.cell? ((⟨g, (i + 1) * 3, none⟩ : Addr).add j) = some u := fun w1 hk j u hu => by
    have e := row_news h ((i + 1) * 3) (flat (l.drop (i + 1))) (fun j u hu => by rw [flat_drop, List.getElem?_drop] at hu; exact hu) j u hu
    rw [hadd] at e ⊢
    exact (World.cell?_of_block (a := ⟨g, (i + 1) * 3 + j, none⟩) (hk g hgw)).trans e
  have HB2 : Hid (∀ (w1 w2 : World) (v1 : Value), (w.alloc (.cells #[] 88)).grownBy w1 (some w.heap.size) → w1.ownsRow w.heap.size 88 3 v1 (0 + i) ([] ++ flat (l.take i)) → w1.grownBy w2 v1.ownBlock → ∀ k, k < w.heap.size → w2.heap[k]? = w.heap[k]?) := fun w1 w2 v1 g1 o1 g2 k hk => by
    refine (g2.block k (by have := g1.size; simp at this; omega) (fun e => ?_)).trans (HB.out w1 g1 k hk)
    have := (o1.lt k e.symm).1
    omega
  have HEnd : Hid (∀ (w1 w2 : World) (v1 v2 : Value), (w.alloc (.cells #[] 88)).grownBy w1 (some w.heap.size) → w1.ownsRow w.heap.size 88 3 v1 (0 + i) ([] ++ flat (l.take i)) → w1.grownBy w2 v1.ownBlock → w2.ownsRow w.heap.size 88 3 v2 (0 + i + (l.length - (i + 1))) ([] ++ flat (l.take i) ++ flat (l.drop (i + 1))) →
      RAfter T w (w2.setCell ⟨r, 1, none⟩ v2) r size (l.take i ++ l.drop (i + 1))) := fun w1 w2 v1 v2 g1 o1 g2 o2 => by
    have hk := HB2.out w1 w2 v1 g1 o1 g2
    have hs : w.heap.size ≤ w2.heap.size := by have a := g1.size; simp at a; have b := g2.size; omega
    refine RAfter.stored h hk ⟨g2.os.trans g1.os, g2.tape.trans g1.tape, g2.output.trans g1.output⟩ hs ?_
    have e1 : 0 + i + (l.length - (i + 1)) = (l.take i ++ l.drop (i + 1)).length := by simp; omega
    rw [← e1, flat_append]
    exact o2
  have H0 : Hid (RefM w T r size (.slice (some ⟨g, 0, none⟩) l.length cap) l) := h
  clear h ca
  by_cases hcc : cap = i + 1
  · subst hcc
    have hm0 : l.length - (i + 1) = 0 := by omega
    have HA2 : Hid (∀ w1 : World, (∀ k, k < w.heap.size → w1.heap[k]? = w.heap[k]?) → ∀ j u, (flat (l.drop (i + 1)))[j]? = some u → w1.cell? ((⟨g, 0, none⟩ : Addr).add j) = some u) := fun w1 hk j u hu => by
      rw [List.drop_of_length_le (by omega)] at hu
      simp [flat] at hu
    have hld0 : (flat (l.drop (i + 1))).length = 0 * 3 := by rw [hld, hm0]
    have HEnd0 := HEnd.out
    simp only [hm0] at HEnd0
    have HEnd1 := hid HEnd0
    clear HEnd0
    clear hm0 HA2g
    have hca : ∀ o, (w.alloc o).cell? ⟨r, 1, none⟩ = some (.slice (some ⟨g, 0, none⟩) l.length (i + 1)) := fun o => (HC.out _ (fun k hk => Below.heap_alloc w o k hk)).1
    go_enter Tryz.func72, Tryz.ntmps72
    go_wp2_with (first | (at_builtin; refine wpList_append_own _ rfl _ _ 56 rfl w.heap.size 88 i0 _ 3 40 Tryz.underlying56 hi0 hz0 hz1 hz2 rfl (by decide) _ 0 [] rfl (World.ownsRow_made w #[] 0 (Nat.le_refl _) (by decide) rfl) ⟨g, 0, none⟩ i (i + 1) (flat (l.take i)) rfl hlt (HA1.out _) (flat_oneCell _) (by unfold maxLen; omega) (by omega) (by simp) ?_; intro v1 w1 hown1 hg1 hnil1; obtain ⟨cc1, ff1⟩ := HC.out w1 (HB.out w1 hg1); have hsz1 := hg1.size; clear HA1) | (at_builtin; go_must (refine wpList_append_own _ rfl _ _ 56 rfl w.heap.size 88 i0 _ 3 40 Tryz.underlying56 hi0 hz0 hz1 hz2 rfl (by decide) v1 (0 + i) ([] ++ flat (l.take i)) rfl hown1 ⟨g, 0, none⟩ 0 0 (flat (l.drop (i + 1))) rfl hld0 (HA2.out w1 (HB.out w1 hg1)) (flat_oneCell _) (by unfold maxLen; omega) (by omega) (by simp at hsz1; omega) ?_); intro v2 w2 hown2 hg2 hnil2; obtain ⟨cc2, ff2⟩ := HC.out w2 (HB2.out w1 w2 v1 hg1 hown1 hg2); obtain ⟨oa2, ca2, hv2⟩ := row3_shape hown2; subst hv2))
    go_end0
    have hfin := HEnd1.out w1 w2 v1 _ hg1 hown1 hg2 hown2
    rw [Nat.zero_add, Nat.add_zero] at hfin
    exact ⟨rfl, hfin⟩
  · have HA2 : Hid (∀ w1 : World, (∀ k, k < w.heap.size → w1.heap[k]? = w.heap[k]?) → ∀ j u, (flat (l.drop (i + 1)))[j]? = some u → w1.cell? ((⟨g, (i + 1) * 3, none⟩ : Addr).add j) = some u) := HA2g
    clear HA2g
    have hca : ∀ o, (w.alloc o).cell? ⟨r, 1, none⟩ = some (.slice (some ⟨g, 0, none⟩) l.length cap) := fun o => (HC.out _ (fun k hk => Below.heap_alloc w o k hk)).1
    have hcn : ¬ (cap - (i + 1) = 0) := by omega
    go_enter Tryz.func72, Tryz.ntmps72
    go_wp2_with (first | (at_builtin; refine wpList_append_own _ rfl _ _ 56 rfl w.heap.size 88 i0 _ 3 40 Tryz.underlying56 hi0 hz0 hz1 hz2 rfl (by decide) _ 0 [] rfl (World.ownsRow_made w #[] 0 (Nat.le_refl _) (by decide) rfl) ⟨g, 0, none⟩ i cap (flat (l.take i)) rfl hlt (HA1.out _) (flat_oneCell _) (by unfold maxLen; omega) (by omega) (by simp) ?_; intro v1 w1 hown1 hg1 hnil1; obtain ⟨cc1, ff1⟩ := HC.out w1 (HB.out w1 hg1); have hsz1 := hg1.size; clear HA1) | (at_builtin; refine wpList_append_own _ rfl _ _ 56 rfl w.heap.size 88 i0 _ 3 40 Tryz.underlying56 hi0 hz0 hz1 hz2 rfl (by decide) v1 (0 + i) ([] ++ flat (l.take i)) rfl hown1 ⟨g, (i + 1) * 3, none⟩ (l.length - (i + 1)) (cap - (i + 1)) (flat (l.drop (i + 1))) rfl hld (HA2.out w1 (HB.out w1 hg1)) (flat_oneCell _) (by unfold maxLen; omega) (by omega) (by simp at hsz1; omega) ?_; intro v2 w2 hown2 hg2 hnil2; obtain ⟨cc2, ff2⟩ := HC.out w2 (HB2.out w1 w2 v1 hg1 hown1 hg2); obtain ⟨oa2, ca2, hv2⟩ := row3_shape hown2; subst hv2))
    go_end0
    have hfin := HEnd.out w1 w2 v1 _ hg1 hown1 hg2 hown2
    rw [Nat.zero_add] at hfin
    exact ⟨rfl, hfin⟩
end Go.Proofs.YtjggdecjnnpjaaaGreat

/- What put of the document's disk does. -/
namespace Go.Proofs.YtjggdecjnnpjaaaGreat
open Go.RowKit Go.Maps Go.Sort
set_option maxRecDepth 100000
set_option linter.unusedSimpArgs false
set_option linter.unusedVariables false

theorem less_bef : ∀ (a b : List UInt8), Op.bytesLess a b = bytesBefore a b
  | [], [] => rfl
  | [], _ :: _ => rfl
  | _ :: _, [] => rfl
  | a :: r, b :: s => by simp only [Op.bytesLess, bytesBefore, less_bef r s]

/-- Where a name is put: behind those that are less. -/
def pos (n : List UInt8) : List AF → Nat
  | [] => 0
  | y :: r => if bytesBefore y.name n then pos n r + 1 else 0

theorem pos_le (n : List UInt8) : ∀ l : List AF, pos n l ≤ l.length
  | [] => Nat.le_refl _
  | y :: r => by have := pos_le n r; simp only [pos]; split <;> simp <;> omega

theorem pos_before (n : List UInt8) : ∀ (l : List AF) (j : Nat) (x : AF), j < pos n l → l[j]? = some x → bytesBefore x.name n = true
  | [], j, x, h, _ => by simp [pos] at h
  | y :: r, j, x, h, hx => by
    simp only [pos] at h
    split at h
    · cases j with
      | zero => simp at hx; subst hx; assumption
      | succ j => exact pos_before n r j x (by omega) (by simpa using hx)
    · omega

theorem pos_end (n : List UInt8) : ∀ (l : List AF) (x : AF), l[pos n l]? = some x → bytesBefore x.name n = false
  | [], x, h => by simp [pos] at h
  | y :: r, x, h => by
    simp only [pos] at h
    split at h
    · exact pos_end n r x (by simpa using h)
    · rename_i hnb; simp at h; subst h; exact Bool.eq_false_iff.2 hnb

theorem ains_pos (x : AF) : ∀ l : List AF, l.Pairwise (fun x y => bytesBefore x.name y.name = true) → (∀ y ∈ l, y.name ≠ x.name) → ains x l = l.take (pos x.name l) ++ x :: l.drop (pos x.name l)
  | [], _, _ => rfl
  | y :: r, hp, hn => by
    have hp' := List.pairwise_cons.1 hp
    have hny := hn y (by simp)
    by_cases hb : bytesBefore y.name x.name = true
    · have hxy := before_asymm hb
      simp only [ains, pos, hb, if_true, hxy, Bool.false_eq_true, if_false, List.take_succ_cons, List.drop_succ_cons, List.cons_append]
      rw [ains_pos x r hp'.2 (fun z hz => hn z (List.mem_cons_of_mem _ hz))]
    · have hxy : bytesBefore x.name y.name = true := by
        rcases WideAt.bytes_total x.name y.name (fun e => hny e.symm) with h | h
        · exact h
        · exact absurd h hb
      simp [ains, pos, hb, hxy]

/-- The loop that finds the place. -/
theorem pos_of {n : List UInt8} : ∀ {l : List AF} {k : Nat}, (∀ j x, j < k → l[j]? = some x → bytesBefore x.name n = true) → k ≤ l.length → (∀ x, l[k]? = some x → bytesBefore x.name n = false) → pos n l = k
  | [], k, _, hk, _ => by simp at hk; simp [pos, hk]
  | y :: r, 0, _, _, h => by have := h y rfl; simp [pos, this]
  | y :: r, k + 1, h, hk, he => by
    have h0 := h 0 y (by omega) rfl
    have := pos_of (l := r) (k := k) (fun j x hj hx => h (j + 1) x (by omega) (by simpa using hx)) (by simpa using hk) (fun x hx => he x (by simpa using hx))
    simp [pos, h0, this]

/-- The three appends of put, behind its loop: what each asks, what is left. -/
structure PutTail (w W0 wz : World) (T : Nat → Prop) (r size g cap k : Nat) (l : List AF) (x : AF) : Prop where
  box : ∀ W, Below W0.heap.size W0 W → W.cell? ⟨w.heap.size, 0, none⟩ = some (.string (strOf x.name)) ∧ W.cell? ⟨w.heap.size, 1, none⟩ = some (.string (strOf x.bs)) ∧ W.cell? ⟨w.heap.size, 2, none⟩ = some (.int .i64 (x.safe : Int)) ∧ W.cell? ⟨r, 1, none⟩ = some (.slice (some ⟨g, 0, none⟩) l.length cap) ∧ W.frozen? ⟨r, 1, none⟩ = false
  b0 : Below W0.heap.size W0 wz
  sz : wz.heap.size = W0.heap.size
  s0 : W0.heap.size = w.heap.size + 1
  b1 : ∀ w1, (wz.alloc (.cells #[] 88)).grownBy w1 (some wz.heap.size) → Below W0.heap.size W0 w1 ∧ wz.heap.size < w1.heap.size
  n1 : ∀ o, ∀ j u, (flat (l.take k))[j]? = some u → (wz.alloc o).cell? ((⟨g, 0, none⟩ : Addr).add j) = some u
  n2 : ∀ w1 : World, ∀ j u, (fcells x)[j]? = some u → (w1.alloc (.cells #[.string (strOf x.name), .string (strOf x.bs), .int .i64 (x.safe : Int)] 88)).cell? ((⟨w1.heap.size, 0, none⟩ : Addr).add j) = some u
  b2 : ∀ w1 w2 v1 xs n, Below W0.heap.size W0 w1 → wz.heap.size < w1.heap.size → w1.ownsRow wz.heap.size 88 3 v1 n xs → (w1.alloc (.cells #[.string (strOf x.name), .string (strOf x.bs), .int .i64 (x.safe : Int)] 88)).grownBy w2 v1.ownBlock → Below W0.heap.size W0 w2 ∧ wz.heap.size < w2.heap.size
  n3 : ∀ w2, Below W0.heap.size W0 w2 → ∀ j u, (flat (l.drop k))[j]? = some u → w2.cell? ((⟨g, k * 3, none⟩ : Addr).add j) = some u
  fin : ∀ w2 w3 v2 v3 xs n, Below W0.heap.size W0 w2 → wz.heap.size < w2.heap.size → w2.ownsRow wz.heap.size 88 3 v2 n xs → w2.grownBy w3 v2.ownBlock → w3.ownsRow wz.heap.size 88 3 v3 (l.take k ++ x :: l.drop k).length (flat (l.take k ++ x :: l.drop k)) → RAfter T w (w3.setCell ⟨r, 1, none⟩ v3) r size (l.take k ++ x :: l.drop k)
  b3 : ∀ w2 w3 v2 xs n, Below W0.heap.size W0 w2 → wz.heap.size < w2.heap.size → w2.ownsRow wz.heap.size 88 3 v2 n xs → w2.grownBy w3 v2.ownBlock → Below W0.heap.size W0 w3

theorem putTail {w W0 wz : World} {T : Nat → Prop} {r size g cap k : Nat} {l : List AF} {x : AF} (h : RefM w T r size (.slice (some ⟨g, 0, none⟩) l.length cap) l) (hW0 : W0 = w.alloc (.cells #[.string (strOf x.name), .string (strOf x.bs), .int .i64 (x.safe : Int)] 88)) (hz : Below W0.heap.size W0 wz) (hsz : wz.heap.size = W0.heap.size) : PutTail w W0 wz T r size g cap k l x := by
  have hB0 : Below w.heap.size w W0 := by rw [hW0]; exact (Below.refl _ _).alloc (Nat.le_refl _) _
  have hs0 : W0.heap.size = w.heap.size + 1 := by rw [hW0]; simp
  have hR : ∀ W, Below W0.heap.size W0 W → RefM W T r size (.slice (some ⟨g, 0, none⟩) l.length cap) l := fun W hW => h.under (hB0.trans (hW.mono (by omega)))
  have hadd : ∀ b o j, (⟨b, o, none⟩ : Addr).add j = ⟨b, o + j, none⟩ := fun b o j => by unfold Addr.add; split <;> simp_all
  have hb3 : ∀ (w2 w3 : World) (v2 : Value) (xs : List Value) (n : Nat), Below W0.heap.size W0 w2 → wz.heap.size < w2.heap.size → w2.ownsRow wz.heap.size 88 3 v2 n xs → w2.grownBy w3 v2.ownBlock → Below W0.heap.size W0 w3 := fun w2 w3 v2 xs n hb hs ho hg => hb.grown hg (by omega) (fun j hj => by have := (ho.lt j hj).1; omega)
  refine ⟨fun W hW => ?_, hz, hsz, hs0, fun w1 hg => ⟨(hz.alloc (by omega) _).grown hg (by simp; omega) (fun j hj => by cases hj; omega), by have := hg.size; simp at this; omega⟩, fun o => ?_, fun w1 j u hu => ?_, fun w1 w2 v1 xs n hb hs ho hg => ⟨(hb.alloc (by omega) _).grown hg (by simp; omega) (fun j hj => by have := (ho.lt j hj).1; omega), by have := hg.size; simp at this; omega⟩, fun w2 hb => ?_, fun w2 w3 v2 v3 xs n hb hs ho hg ho3 => ?_, hb3⟩
  · have e : W.heap[w.heap.size]? = some (.cells #[.string (strOf x.name), .string (strOf x.bs), .int .i64 (x.safe : Int)] 88) := (hW.block w.heap.size (by omega)).trans (by rw [hW0]; exact heap_alloc_new w _)
    exact ⟨by simp [World.cell?, e], by simp [World.cell?, e], by simp [World.cell?, e], (hR W hW).c1, (hR W hW).f1⟩
  · exact row_news (hR _ (hz.alloc (by omega) _)) 0 _ (fun j u hu => by
      rw [flat_take, List.getElem?_take] at hu
      split at hu
      · rw [Nat.zero_add]; exact hu
      · cases hu)
  · rw [hadd, Nat.zero_add]
    have e : (w1.alloc (.cells #[.string (strOf x.name), .string (strOf x.bs), .int .i64 (x.safe : Int)] 88)).heap[w1.heap.size]? = _ := heap_alloc_new w1 _
    simp only [World.cell?, e]
    simpa [fcells] using hu
  · exact row_news (hR _ hb) (k * 3) _ (fun j u hu => by rw [flat_drop, List.getElem?_drop] at hu; exact hu)
  · have hb' := hb3 w2 w3 v2 xs n hb hs ho hg
    have hbw : Below w.heap.size w w3 := hB0.trans (hb'.mono (by omega))
    refine RAfter.stored h (fun j hj => hbw.block j hj) ⟨hbw.os, hbw.tape, hbw.output⟩ hbw.size ⟨ho3.1, ?_⟩
    rcases ho3.2 with h0 | ⟨g3, cap3, cur, e, hb0, rest⟩
    · exact .inl h0
    · exact .inr ⟨g3, cap3, cur, e, by omega, rest⟩

theorem fcells_one (x : AF) : ∀ u ∈ fcells x, u.oneCell' = true := by
  intro u hu
  simp [fcells] at hu
  rcases hu with rfl | rfl | rfl <;> rfl

set_option maxHeartbeats 3200000 in
theorem rput_some {w : World} {T : Nat → Prop} {r size g cap : Nat} {l : List AF} (h : RefM w T r size (.slice (some ⟨g, 0, none⟩) l.length cap) l) (hl : l.length ≤ 1000) (hcap : l.length ≤ cap) (hcm : cap ≤ 9223372036854775807) (x : AF) :
    Calls Tryz.prog 73 #[.pointer (some ⟨r, 0, none⟩), .agg #[.string (strOf x.name), .string (strOf x.bs), .int .i64 (x.safe : Int)]] w fun e w' => e = .returned (.tuple #[]) ∧ RAfter T w w' r size (l.take (pos x.name l) ++ x :: l.drop (pos x.name l)) := by
  obtain ⟨i0, hi0, hz0, hz1, hz2⟩ := info_parts info62
  obtain ⟨W0, hW0⟩ : ∃ W0, W0 = w.alloc (.cells #[.string (strOf x.name), .string (strOf x.bs), .int .i64 (x.safe : Int)] 88) := ⟨_, rfl⟩
  have HT : Hid (∀ wz k, Below W0.heap.size W0 wz → wz.heap.size = W0.heap.size → PutTail w W0 wz T r size g cap k l x) := fun wz k hz hs => putTail h hW0 hz hs
  have HBox : Hid (∀ W, Below W0.heap.size W0 W → W.cell? ⟨w.heap.size, 0, none⟩ = some (.string (strOf x.name)) ∧ W.cell? ⟨r, 1, none⟩ = some (.slice (some ⟨g, 0, none⟩) l.length cap)) := fun W hW => by
    have := (putTail (k := 0) h hW0 (Below.refl _ _) rfl).box W hW
    exact ⟨this.1, this.2.2.2.1⟩
  have HStart : Hid (Below W0.heap.size W0 (w.alloc (.cells #[.string (strOf x.name), .string (strOf x.bs), .int .i64 (x.safe : Int)] 88)) ∧ (w.alloc (.cells #[.string (strOf x.name), .string (strOf x.bs), .int .i64 (x.safe : Int)] 88)).heap.size = W0.heap.size) := by rw [← hW0]; exact ⟨Below.refl _ _, rfl⟩
  have HRow : Hid (∀ W, Below W0.heap.size W0 W → ∀ k y, l[k]? = some y → W.cell? ⟨g, k * 3, none⟩ = some (.string (strOf y.name))) := fun W hW k y hy => ((h.under ((show Below w.heap.size w W0 by rw [hW0]; exact (Below.refl _ _).alloc (Nat.le_refl _) _).trans (hW.mono (by rw [hW0]; simp)))).at_ k y hy).1
  clear hW0 h
  go_enter Tryz.func73, Tryz.ntmps73
  go_wp2
  go_loopw [4] (fun i0 wr => ∃ k : Nat, k ≤ l.length ∧ i0 = .int .i64 (k : Int) ∧ Hid (Below W0.heap.size W0 wr ∧ wr.heap.size = W0.heap.size ∧ ∀ j y, j < k → l[j]? = some y → bytesBefore y.name x.name = true)) (fun i0 _ => l.length - (intOf i0).toNat)
  case atStart => exact ⟨0, Nat.zero_le _, rfl, HStart.out.1, HStart.out.2, fun j y hj => by omega⟩
  case round =>
    obtain ⟨k, hk, rfl, hI⟩ := hrel
    obtain ⟨b0, cr⟩ := HBox.out _ hI.out.1
    by_cases hgo : ∃ hlt : k < l.length, bytesBefore l[k].name x.name = true
    · obtain ⟨hlt, hb⟩ := hgo
      have hk' : (k : Int) < (l.length : Int) := by omega
      have hyk : l[k]? = some l[k] := List.getElem?_eq_getElem hlt
      have p0 := HRow.out _ hI.out.1 k _ hyk
      have t : Op.bytesLess (strOf l[k].name).toList (strOf x.name).toList = true := by rw [strOf_toL, strOf_toL, less_bef]; exact hb
      have HN : Hid (∀ j y, j < k + 1 → l[j]? = some y → bytesBefore y.name x.name = true) := fun j y hj hy => by
        by_cases e : j = k
        · subst e; rw [hyk] at hy; cases hy; exact hb
        · exact hI.out.2.2 j y (by omega) hy
      generalize l[k] = y at *
      clear hyk hb
      go_wp2_with fail
      go_quiet (fail)
      go_wp2_with fail
      go_roundw
      case rel => exact ⟨k + 1, by omega, by go_num, below_drewN hI.out.1 _, hI.out.2.1, HN.out⟩
      case measure => simp [intOf]; omega
    · have HPos : Hid (pos x.name l = k) := pos_of (fun j y hj hy => hI.out.2.2 j y hj hy) hk (fun y hy => by
        have hlt := (List.getElem?_eq_some_iff.1 hy).1
        cases hb : bytesBefore y.name x.name with
        | false => rfl
        | true =>
          exfalso
          refine hgo ⟨hlt, ?_⟩
          rw [List.getElem?_eq_getElem hlt] at hy
          rw [Option.some.inj hy]; exact hb)
      have HT2 : Hid (∀ nq, PutTail w W0 (wr.drewN nq) T r size g cap k l x) := fun nq => HT.out _ k (below_drewN hI.out.1 _) hI.out.2.1
      have hlt1 : (flat (l.take k)).length = k * 3 := by rw [flat_length, List.length_take]; congr 1; omega
      have hld : (flat (l.drop k)).length = (l.length - k) * 3 := by rw [flat_length, List.length_drop]
      have hkc : k ≤ cap := by omega
      by_cases hlt : k < l.length
      · have hk' : (k : Int) < (l.length : Int) := by omega
        have hyk : l[k]? = some l[k] := List.getElem?_eq_getElem hlt
        have p0 := HRow.out _ hI.out.1 k _ hyk
        have t : Op.bytesLess (strOf l[k].name).toList (strOf x.name).toList = false := by
          rw [strOf_toL, strOf_toL, less_bef]
          cases hb : bytesBefore l[k].name x.name with
          | false => rfl
          | true => exact absurd ⟨hlt, hb⟩ hgo
        generalize l[k] = y at *
        clear hyk hgo HT HBox HStart HRow
        have hcn : ¬ (cap - k = 0) := by omega
        go_wp2_with fail
        go_quiet (fail)
        have HP := hid (HT2.out nq)
        clear HT2
        have hca : ∀ o, ((wr.drewN nq).alloc o).cell? ⟨r, 1, none⟩ = some (.slice (some ⟨g, 0, none⟩) l.length cap) := fun o => (HP.out.box _ (HP.out.b0.alloc (by rw [HP.out.sz]; exact Nat.le_refl _) _)).2.2.2.1
        have hii : (k : Int) ≤ (l.length : Int) := by omega
        go_wp2_with (first | (at_builtin; refine wpList_append_own _ rfl _ _ 56 rfl (wr.drewN nq).heap.size 88 i0 _ 3 40 Tryz.underlying56 hi0 hz0 hz1 hz2 rfl (by decide) _ 0 [] rfl (World.ownsRow_made (wr.drewN nq) #[] 0 (Nat.le_refl _) (by decide) rfl) ⟨g, 0, none⟩ k cap (flat (l.take k)) rfl hlt1 (HP.out.n1 _) (flat_oneCell _) (by unfold maxLen; omega) (by omega) (by simp) ?_; intro v1 w1 hown1 hg1 hnil1; have hB1 := hid (HP.out.b1 w1 hg1); have hsz1 : wr.heap.size < w1.heap.size := hB1.out.2; obtain ⟨f0, f1, f2, cc1, ff1⟩ := HP.out.box w1 hB1.out.1) | (at_builtin; refine wpList_append_own _ rfl _ _ 56 rfl (wr.drewN nq).heap.size 88 i0 _ 3 40 Tryz.underlying56 hi0 hz0 hz1 hz2 rfl (by decide) v1 (0 + k) ([] ++ flat (l.take k)) rfl (hown1.alloc _) ⟨w1.heap.size, 0, none⟩ 1 1 (fcells x) rfl rfl (HP.out.n2 w1) (fcells_one x) (by unfold maxLen; omega) (by omega) (by simp; omega) ?_; intro v2 w2 hown2 hg2 hnil2; have hB2 := hid (HP.out.b2 w1 w2 v1 _ _ hB1.out.1 hB1.out.2 hown1 hg2); have hsz2 : wr.heap.size < w2.heap.size := hB2.out.2; obtain ⟨_, _, _, cc2, ff2⟩ := HP.out.box w2 hB2.out.1) | (at_builtin; refine wpList_append_own _ rfl _ _ 56 rfl (wr.drewN nq).heap.size 88 i0 _ 3 40 Tryz.underlying56 hi0 hz0 hz1 hz2 rfl (by decide) v2 (0 + k + 1) ([] ++ flat (l.take k) ++ fcells x) rfl hown2 ⟨g, k * 3, none⟩ (l.length - k) (cap - k) (flat (l.drop k)) rfl hld (HP.out.n3 w2 hB2.out.1) (flat_oneCell _) (by unfold maxLen; omega) (by omega) (by have := hB2.out.2; omega) ?_; intro v3 w3 hown3 hg3 hnil3; have hB3 := hid (HP.out.b3 w2 w3 v2 _ _ hB2.out.1 hB2.out.2 hown2 hg3); obtain ⟨_, _, _, cc3, ff3⟩ := HP.out.box w3 hB3.out; obtain ⟨oa3, ca3, hv3⟩ := row3_shape hown3; subst hv3))
        go_end0
        have hln : (l.take k ++ x :: l.drop k).length = k + 1 + (l.length - k) := by simp; omega
        have hfl : flat (l.take k ++ x :: l.drop k) = [] ++ flat (l.take k) ++ fcells x ++ flat (l.drop k) := by rw [flat_append]; simp [flat]
        simp only [Nat.zero_add] at hown3
        rw [HPos.out]
        exact ⟨rfl, HP.out.fin w2 w3 v2 _ _ _ hB2.out.1 hB2.out.2 hown2 hg3 (by rw [hln, hfl]; exact hown3)⟩
      · have hk' : ¬ ((k : Int) < (l.length : Int)) := by omega
        clear hgo HT HBox HStart HRow
        by_cases hcn : cap - k = 0
        · have hck : cap = k := by omega
          subst hck
          have hld0 : (flat (l.drop cap)).length = 0 * 3 := by rw [hld]; omega
          have hm0 : l.length - cap = 0 := by omega
          have HN3 : Hid (∀ w2 : World, ∀ j u, (flat (l.drop cap))[j]? = some u → w2.cell? ((⟨g, 0, none⟩ : Addr).add j) = some u) := fun w2 j u hu => by
            rw [List.drop_of_length_le (by omega)] at hu
            simp [flat] at hu
          go_wp2_with fail
          go_quiet (fail)
          have HP := hid (HT2.out nq)
          clear HT2
          have hca : ∀ o, ((wr.drewN nq).alloc o).cell? ⟨r, 1, none⟩ = some (.slice (some ⟨g, 0, none⟩) l.length cap) := fun o => (HP.out.box _ (HP.out.b0.alloc (by rw [HP.out.sz]; exact Nat.le_refl _) _)).2.2.2.1
          have hii : (cap : Int) ≤ (l.length : Int) := by omega
          go_wp2_with (first | (at_builtin; refine wpList_append_own _ rfl _ _ 56 rfl (wr.drewN nq).heap.size 88 i0 _ 3 40 Tryz.underlying56 hi0 hz0 hz1 hz2 rfl (by decide) _ 0 [] rfl (World.ownsRow_made (wr.drewN nq) #[] 0 (Nat.le_refl _) (by decide) rfl) ⟨g, 0, none⟩ cap cap (flat (l.take cap)) rfl hlt1 (HP.out.n1 _) (flat_oneCell _) (by unfold maxLen; omega) (by omega) (by simp) ?_; intro v1 w1 hown1 hg1 hnil1; have hB1 := hid (HP.out.b1 w1 hg1); have hsz1 : wr.heap.size < w1.heap.size := hB1.out.2; obtain ⟨f0, f1, f2, cc1, ff1⟩ := HP.out.box w1 hB1.out.1) | (at_builtin; refine wpList_append_own _ rfl _ _ 56 rfl (wr.drewN nq).heap.size 88 i0 _ 3 40 Tryz.underlying56 hi0 hz0 hz1 hz2 rfl (by decide) v1 (0 + cap) ([] ++ flat (l.take cap)) rfl (hown1.alloc _) ⟨w1.heap.size, 0, none⟩ 1 1 (fcells x) rfl rfl (HP.out.n2 w1) (fcells_one x) (by unfold maxLen; omega) (by omega) (by simp; omega) ?_; intro v2 w2 hown2 hg2 hnil2; have hB2 := hid (HP.out.b2 w1 w2 v1 _ _ hB1.out.1 hB1.out.2 hown1 hg2); have hsz2 : wr.heap.size < w2.heap.size := hB2.out.2; obtain ⟨_, _, _, cc2, ff2⟩ := HP.out.box w2 hB2.out.1) | (at_builtin; refine wpList_append_own _ rfl _ _ 56 rfl (wr.drewN nq).heap.size 88 i0 _ 3 40 Tryz.underlying56 hi0 hz0 hz1 hz2 rfl (by decide) v2 (0 + cap + 1) ([] ++ flat (l.take cap) ++ fcells x) rfl hown2 ⟨g, 0, none⟩ 0 0 (flat (l.drop cap)) rfl hld0 (HN3.out w2) (flat_oneCell _) (by unfold maxLen; omega) (by omega) (by have := hB2.out.2; omega) ?_; intro v3 w3 hown3 hg3 hnil3; have hB3 := hid (HP.out.b3 w2 w3 v2 _ _ hB2.out.1 hB2.out.2 hown2 hg3); obtain ⟨_, _, _, cc3, ff3⟩ := HP.out.box w3 hB3.out; obtain ⟨oa3, ca3, hv3⟩ := row3_shape hown3; subst hv3))
          go_end0
          have hln : (l.take cap ++ x :: l.drop cap).length = cap + 1 + (l.length - cap) := by simp; omega
          have hfl : flat (l.take cap ++ x :: l.drop cap) = [] ++ flat (l.take cap) ++ fcells x ++ flat (l.drop cap) := by rw [flat_append]; simp [flat]
          simp only [Nat.zero_add, Nat.add_zero] at hown3
          rw [hm0] at hln
          rw [HPos.out]
          exact ⟨rfl, HP.out.fin w2 w3 v2 _ _ _ hB2.out.1 hB2.out.2 hown2 hg3 (by rw [hln, hfl]; exact hown3)⟩
        · go_wp2_with fail
          go_quiet (fail)
          have HP := hid (HT2.out nq)
          clear HT2
          have hca : ∀ o, ((wr.drewN nq).alloc o).cell? ⟨r, 1, none⟩ = some (.slice (some ⟨g, 0, none⟩) l.length cap) := fun o => (HP.out.box _ (HP.out.b0.alloc (by rw [HP.out.sz]; exact Nat.le_refl _) _)).2.2.2.1
          have hii : (k : Int) ≤ (l.length : Int) := by omega
          go_wp2_with (first | (at_builtin; refine wpList_append_own _ rfl _ _ 56 rfl (wr.drewN nq).heap.size 88 i0 _ 3 40 Tryz.underlying56 hi0 hz0 hz1 hz2 rfl (by decide) _ 0 [] rfl (World.ownsRow_made (wr.drewN nq) #[] 0 (Nat.le_refl _) (by decide) rfl) ⟨g, 0, none⟩ k cap (flat (l.take k)) rfl hlt1 (HP.out.n1 _) (flat_oneCell _) (by unfold maxLen; omega) (by omega) (by simp) ?_; intro v1 w1 hown1 hg1 hnil1; have hB1 := hid (HP.out.b1 w1 hg1); have hsz1 : wr.heap.size < w1.heap.size := hB1.out.2; obtain ⟨f0, f1, f2, cc1, ff1⟩ := HP.out.box w1 hB1.out.1) | (at_builtin; refine wpList_append_own _ rfl _ _ 56 rfl (wr.drewN nq).heap.size 88 i0 _ 3 40 Tryz.underlying56 hi0 hz0 hz1 hz2 rfl (by decide) v1 (0 + k) ([] ++ flat (l.take k)) rfl (hown1.alloc _) ⟨w1.heap.size, 0, none⟩ 1 1 (fcells x) rfl rfl (HP.out.n2 w1) (fcells_one x) (by unfold maxLen; omega) (by omega) (by simp; omega) ?_; intro v2 w2 hown2 hg2 hnil2; have hB2 := hid (HP.out.b2 w1 w2 v1 _ _ hB1.out.1 hB1.out.2 hown1 hg2); have hsz2 : wr.heap.size < w2.heap.size := hB2.out.2; obtain ⟨_, _, _, cc2, ff2⟩ := HP.out.box w2 hB2.out.1) | (at_builtin; refine wpList_append_own _ rfl _ _ 56 rfl (wr.drewN nq).heap.size 88 i0 _ 3 40 Tryz.underlying56 hi0 hz0 hz1 hz2 rfl (by decide) v2 (0 + k + 1) ([] ++ flat (l.take k) ++ fcells x) rfl hown2 ⟨g, k * 3, none⟩ (l.length - k) (cap - k) (flat (l.drop k)) rfl hld (HP.out.n3 w2 hB2.out.1) (flat_oneCell _) (by unfold maxLen; omega) (by omega) (by have := hB2.out.2; omega) ?_; intro v3 w3 hown3 hg3 hnil3; have hB3 := hid (HP.out.b3 w2 w3 v2 _ _ hB2.out.1 hB2.out.2 hown2 hg3); obtain ⟨_, _, _, cc3, ff3⟩ := HP.out.box w3 hB3.out; obtain ⟨oa3, ca3, hv3⟩ := row3_shape hown3; subst hv3))
          go_end0
          have hln : (l.take k ++ x :: l.drop k).length = k + 1 + (l.length - k) := by simp; omega
          have hfl : flat (l.take k ++ x :: l.drop k) = [] ++ flat (l.take k) ++ fcells x ++ flat (l.drop k) := by rw [flat_append]; simp [flat]
          simp only [Nat.zero_add] at hown3
          rw [HPos.out]
          exact ⟨rfl, HP.out.fin w2 w3 v2 _ _ _ hB2.out.1 hB2.out.2 hown2 hg3 (by rw [hln, hfl]; exact hown3)⟩
end Go.Proofs.YtjggdecjnnpjaaaGreat

