/- The document's list of files: where a name stands, what a change makes of the list. -/
import Derived.Test.YtjggdecjnnpjaaaGreatH15
import Derived.Test.YtjggdecjnnpjaaaGreatH14
import Derived.Deep.RegionHeld3
namespace Go.Proofs.YtjggdecjnnpjaaaGreat
open Go.RowKit Go.Maps Go.Sort
set_option maxRecDepth 100000
set_option linter.unusedSimpArgs false
set_option linter.unusedVariables false

def Srt (l : List AF) : Prop := l.Pairwise (fun x y => bytesBefore x.name y.name = true)
/-- What a disk's list of files keeps. -/
structure LOk (size : Nat) (l : List AF) : Prop where
  total : totalA l ≤ size
  big : size ≤ 16777216
  len : l.length ≤ 256
  srt : Srt l
  safe : ∀ x ∈ l, x.safe ≤ x.bs.length ∧ x.name.length ≤ maxLen
theorem DiskA.lok {w : World} {S : Nat → Prop} {a size : Nat} {l : List AF} (h : DiskA w S a size l) : LOk size l := by
  obtain ⟨h1, h2, h3, h4, h5⟩ := h.facts
  exact ⟨h1, h2, h3, h4, h5⟩
theorem total_mem : ∀ {l : List AF} {x : AF}, x ∈ l → x.bs.length ≤ totalA l
  | y :: r, x, h => by
    simp only [totalA]
    rcases List.mem_cons.1 h with rfl | h
    · omega
    · have := total_mem h; omega
theorem total_app : ∀ a b : List AF, totalA (a ++ b) = totalA a + totalA b
  | [], b => by simp [totalA]
  | y :: r, b => by have := total_app r b; simp only [List.cons_append, totalA]; omega
theorem idx_no {l : List AF} {n : List UInt8} (h : idx l n = none) : alook l n = none ∧ ∀ x ∈ l, x.name ≠ n := by
  unfold idx at h
  rw [List.findIdx?_eq_none_iff] at h
  refine ⟨?_, fun x hx => by simpa using h x hx⟩
  unfold alook
  rw [List.find?_eq_none]
  intro x hx
  have := h x hx
  simpa using this
theorem idx_yes : ∀ {l : List AF} {n : List UInt8} {i : Nat}, idx l n = some i → ∃ x, l[i]? = some x ∧ x.name = n ∧ alook l n = some x ∧ i < l.length
  | [], n, i, h => by simp [idx] at h
  | y :: r, n, i, h => by
    unfold idx at h
    rw [List.findIdx?_cons] at h
    by_cases e : y.name = n
    · have e' : (y.name == n) = true := by simpa using e
      simp only [e', if_true, Option.some.injEq] at h
      subst h
      exact ⟨y, rfl, e, by simp [alook, e'], by simp⟩
    · have e' : (y.name == n) = false := by simpa using e
      simp only [e', Bool.false_eq_true, if_false] at h
      obtain ⟨j, hj, rfl⟩ := Option.map_eq_some_iff.1 h
      obtain ⟨x, h1, h2, h3, h4⟩ := idx_yes (l := r) (n := n) (i := j) hj
      refine ⟨x, by simpa using h1, h2, ?_, by simp; omega⟩
      unfold alook at h3 ⊢
      rw [List.find?_cons, e']
      exact h3
theorem idxI_no {l : List AF} {n : List UInt8} (h : idx l n = none) : idxI l n = -1 := by unfold idxI; rw [h]
theorem idxI_yes {l : List AF} {n : List UInt8} {i : Nat} (h : idx l n = some i) : idxI l n = (i : Int) := by unfold idxI; rw [h]
theorem adel_all {l : List AF} {n : List UInt8} (h : ∀ x ∈ l, x.name ≠ n) : adel l n = l := by
  unfold adel
  rw [List.filter_eq_self]
  intro x hx
  simpa using h x hx
theorem srt_ne {y : AF} {r : List AF} (h : Srt (y :: r)) : ∀ x ∈ r, x.name ≠ y.name := fun x hx => fun e => by
  have := (List.pairwise_cons.1 h).1 x hx
  exact before_ne this e.symm
theorem adel_at : ∀ {l : List AF} {i : Nat} {x : AF}, Srt l → l[i]? = some x → adel l x.name = l.take i ++ l.drop (i + 1)
  | [], i, x, _, h => by simp at h
  | y :: r, 0, x, hs, h => by
    simp at h
    subst h
    have e := adel_all (srt_ne hs)
    unfold adel at e ⊢
    rw [List.filter_cons]
    simp only [beq_self_eq_true, Bool.not_true, Bool.false_eq_true, if_false]
    rw [e]
    simp
  | y :: r, i + 1, x, hs, h => by
    have hx : r[i]? = some x := by simpa using h
    have hne : y.name ≠ x.name := fun e => srt_ne hs x (List.mem_of_getElem? hx) e.symm
    have ih := adel_at (List.pairwise_cons.1 hs).2 hx
    unfold adel at ih ⊢
    rw [List.filter_cons]
    have e' : (!(y.name == x.name)) = true := by simpa using hne
    simp only [e', if_true]
    rw [ih]
    simp
theorem aput_at : ∀ {l : List AF} {i : Nat} {x y : AF}, Srt l → l[i]? = some x → y.name = x.name → aput l y = l.set i y
  | [], i, x, y, _, h, _ => by simp at h
  | z :: r, 0, x, y, hs, h, e => by
    simp at h
    subst h
    unfold aput
    have ed : adel (z :: r) y.name = r := by
      rw [e]
      have := adel_at (l := z :: r) (i := 0) (x := z) hs rfl
      simpa using this
    rw [ed]
    cases r with
    | nil => rfl
    | cons u r =>
      have hb : bytesBefore y.name u.name = true := by rw [e]; exact (List.pairwise_cons.1 hs).1 u (by simp)
      simp [ains, hb]
  | z :: r, i + 1, x, y, hs, h, e => by
    have hx : r[i]? = some x := by simpa using h
    have hb : bytesBefore z.name y.name = true := by rw [e]; exact (List.pairwise_cons.1 hs).1 x (List.mem_of_getElem? hx)
    have hne : z.name ≠ y.name := before_ne hb
    have ih := aput_at (List.pairwise_cons.1 hs).2 hx e
    unfold aput at ih ⊢
    have ed : adel (z :: r) y.name = z :: adel r y.name := by
      unfold adel
      rw [List.filter_cons]
      have e' : (!(z.name == y.name)) = true := by simpa using hne
      simp only [e', if_true]
    rw [ed]
    simp only [ains, before_asymm hb, Bool.false_eq_true, if_false]
    rw [ih]
    simp
theorem aput_no {l : List AF} {y : AF} (hs : Srt l) (h : ∀ x ∈ l, x.name ≠ y.name) : aput l y = l.take (pos y.name l) ++ y :: l.drop (pos y.name l) := by
  unfold aput
  rw [adel_all h]
  exact ains_pos y l hs h
theorem srt_adel {l : List AF} (n : List UInt8) (h : Srt l) : Srt (adel l n) := by
  unfold adel
  exact List.Pairwise.filter _ h
theorem adel_ne (l : List AF) (n : List UInt8) : ∀ x ∈ adel l n, x.name ≠ n := fun x hx => by
  unfold adel at hx
  have := (List.mem_filter.1 hx).2
  simpa using this
theorem adel_mem {l : List AF} {n : List UInt8} {x : AF} (h : x ∈ adel l n) : x ∈ l := (List.mem_filter.1 h).1
theorem adel_len (l : List AF) (n : List UInt8) : (adel l n).length ≤ l.length := List.length_filter_le _ _
theorem idx_put {l : List AF} {x : AF} {p : Nat} (hp : p ≤ l.length) (h : ∀ y ∈ l, y.name ≠ x.name) : idx (l.take p ++ x :: l.drop p) x.name = some p := by
  have hl : (l.take p).length = p := by simp; omega
  refine idx_some_of (by simp; omega) ?_ (fun j y hj hy => ?_)
  · rw [List.getElem_append_right (by omega)]
    simp [hl]
  · rw [List.getElem?_append_left (by omega)] at hy
    exact h y (List.mem_of_mem_take (List.mem_of_getElem? hy))
theorem put_at {l : List AF} {x : AF} {p : Nat} (hp : p ≤ l.length) : (l.take p ++ x :: l.drop p)[p]? = some x := by
  have hl : (l.take p).length = p := by simp; omega
  rw [List.getElem?_append_right (by omega), hl]
  simp
theorem put_set {l : List AF} {x y : AF} {p : Nat} (hp : p ≤ l.length) : (l.take p ++ x :: l.drop p).set p y = l.take p ++ y :: l.drop p := by
  have hl : (l.take p).length = p := by simp; omega
  rw [List.set_append_right _ _ (by omega), hl]
  simp
theorem put_total {l : List AF} {n : List UInt8} {p : Nat} : totalA (l.take p ++ ⟨n, [], 0⟩ :: l.drop p) = totalA l := by
  rw [total_app]
  simp only [totalA, List.length_nil, Nat.zero_add]
  rw [← total_app, List.take_append_drop]
theorem put_len {l : List AF} {x : AF} {p : Nat} (hp : p ≤ l.length) : (l.take p ++ x :: l.drop p).length = l.length + 1 := by simp; omega
theorem mem_at {l : List AF} {i : Nat} {x : AF} (h : l[i]? = some x) : x ∈ l := List.mem_of_getElem? h
/-- One cell of the row is set. -/
theorem flat_set1 : ∀ {l : List AF} {i : Nat} {x : AF} (b : List UInt8), l[i]? = some x → flat (l.set i ⟨x.name, b, x.safe⟩) = (flat l).set (i * 3 + 1) (.string (strOf b))
  | [], i, x, b, h => by simp at h
  | y :: r, 0, x, b, h => by simp at h; subst h; simp [flat, fcells]
  | y :: r, i + 1, x, b, h => by
    have ih := flat_set1 b (show r[i]? = some x by simpa using h)
    simp only [List.set_cons_succ, flat]
    rw [ih, List.set_append_right _ _ (by simp [fcells]; omega)]
    congr 2
    simp [fcells]
    omega
theorem flat_set2 : ∀ {l : List AF} {i : Nat} {x : AF} (s : Nat), l[i]? = some x → flat (l.set i ⟨x.name, x.bs, s⟩) = (flat l).set (i * 3 + 2) (.int .i64 (s : Int))
  | [], i, x, b, h => by simp at h
  | y :: r, 0, x, b, h => by simp at h; subst h; simp [flat, fcells]
  | y :: r, i + 1, x, b, h => by
    have ih := flat_set2 b (show r[i]? = some x by simpa using h)
    simp only [List.set_cons_succ, flat]
    rw [ih, List.set_append_right _ _ (by simp [fcells]; omega)]
    congr 2
    simp [fcells]
    omega
theorem row_set {w : World} {g cap n j : Nat} {v : Value} {xs : List Value} (h : w.ownsRow 0 88 3 (.slice (some ⟨g, 0, none⟩) n cap) n xs) : (w.setCell ⟨g, j, none⟩ v).ownsRow 0 88 3 (.slice (some ⟨g, 0, none⟩) n cap) n (xs.set j v) := by
  obtain ⟨h1, h2⟩ := h
  refine ⟨by simpa using h1, ?_⟩
  rcases h2 with ⟨e, _⟩ | ⟨g', cap', cur, e, hb, hg, hn, hc, hs, ht⟩
  · cases e
  · cases e
    refine .inr ⟨g, cap, cur.setIfInBounds j v, rfl, hb, ?_, hn, hc, by simpa using hs, ?_⟩
    · simp [World.setCell, Array.getElem?_modify, hg]
    · rw [← ht]
      simp [List.take_set]
theorem RefM.ne {w : World} {T : Nat → Prop} {r size g cap : Nat} {l : List AF} (h : RefM w T r size (.slice (some ⟨g, 0, none⟩) l.length cap) l) : g ≠ r := fun e => by
  obtain ⟨_, ⟨e0, _⟩ | ⟨g', cap', cur, e0, hb, hg, _⟩⟩ := h.row
  · cases e0
  · cases e0
    have := h.cells
    rw [← e, hg] at this
    cases this
theorem dkeeps_set {T : Nat → Prop} {w : World} {g j : Nat} {v : Value} (h : T g) : Keeps T w (w.setCell ⟨g, j, none⟩ v) :=
  ⟨rfl, rfl, rfl, by simp [World.setCell], fun k hk hT => Below.heap_setCell w ⟨g, j, none⟩ v k (fun e => hT (by rw [e]; exact h))⟩
theorem RefM.cell {w : World} {T : Nat → Prop} {r size g cap j : Nat} {v : Value} {l l' : List AF} (h : RefM w T r size (.slice (some ⟨g, 0, none⟩) l.length cap) l) (hl : l'.length = l.length) (hf : flat l' = (flat l).set j v) :
    RefM (w.setCell ⟨g, j, none⟩ v) T r size (.slice (some ⟨g, 0, none⟩) l'.length cap) l' := by
  have hne := h.ne
  have hT := h.rowT g rfl
  rw [hl]
  refine ⟨fun k hk => by have := h.below k hk; simpa [World.setCell] using this, h.self, (Below.heap_setCell w ⟨g, j, none⟩ v r (fun e => hne e.symm)).trans h.cells, ?_, fun k hk => by cases hk; exact hT⟩
  rw [hl, hf]
  exact row_set h.row
theorem RefM.set1 {w : World} {T : Nat → Prop} {r size g cap i : Nat} {x : AF} {l : List AF} (h : RefM w T r size (.slice (some ⟨g, 0, none⟩) l.length cap) l) (hx : l[i]? = some x) (b : List UInt8) :
    RefM (w.setCell ⟨g, i * 3 + 1, none⟩ (.string (strOf b))) T r size (.slice (some ⟨g, 0, none⟩) (l.set i ⟨x.name, b, x.safe⟩).length cap) (l.set i ⟨x.name, b, x.safe⟩) := h.cell (by simp) (flat_set1 b hx)
theorem RefM.set2 {w : World} {T : Nat → Prop} {r size g cap i : Nat} {x : AF} {l : List AF} (h : RefM w T r size (.slice (some ⟨g, 0, none⟩) l.length cap) l) (hx : l[i]? = some x) (s : Nat) :
    RefM (w.setCell ⟨g, i * 3 + 2, none⟩ (.int .i64 (s : Int))) T r size (.slice (some ⟨g, 0, none⟩) (l.set i ⟨x.name, x.bs, s⟩).length cap) (l.set i ⟨x.name, x.bs, s⟩) := h.cell (by simp) (flat_set2 s hx)
theorem RefM.free {w : World} {T : Nat → Prop} {r size g cap : Nat} {l : List AF} (h : RefM w T r size (.slice (some ⟨g, 0, none⟩) l.length cap) l) (j : Nat) : w.frozen? ⟨g, j, none⟩ = false := by
  obtain ⟨_, ⟨e0, _⟩ | ⟨g', cap', cur, e0, hb, hg, _⟩⟩ := h.row
  · cases e0
  · cases e0
    simp [World.frozen?, hg]
theorem RAfter.same {T : Nat → Prop} {w w1 : World} {r size : Nat} {v : Value} {l : List AF} (h : RefM w T r size v l) (hb : Below w.heap.size w w1) : RAfter T w w1 r size l :=
  ⟨T, v, h.under hb, fun _ hk => .inl hk, fun _ hk => hk, Keeps.of_below hb⟩
theorem RAfter.in {T : Nat → Prop} {w w1 : World} {r size : Nat} {v : Value} {l : List AF} (h : RefM w1 T r size v l) (hk : Keeps T w w1) : RAfter T w w1 r size l :=
  ⟨T, v, h, fun _ hk => .inl hk, fun _ hk => hk, hk⟩
/-- One call behind another. -/
theorem RAfter.trans {T : Nat → Prop} {w w1 w2 : World} {r size : Nat} {l : List AF} (T1 : Nat → Prop) (h1 : ∀ k, T1 k → T k ∨ w.heap.size ≤ k) (h2 : ∀ k, T k → T1 k) (hk : Keeps T w w1) (h : RAfter T1 w1 w2 r size l) : RAfter T w w2 r size l := by
  obtain ⟨T', v', hr, a1, a2, a3⟩ := h
  refine ⟨T', v', hr, fun k hk' => ?_, fun k hk' => a2 k (h2 k hk'), hk.trans a3 h1⟩
  rcases a1 k hk' with h | h
  · exact h1 k h
  · have := hk.size
    exact .inr (by omega)
end Go.Proofs.YtjggdecjnnpjaaaGreat

/- What the document's disk tells: Name, made, Read, Size, Synced. -/
namespace Go.Proofs.YtjggdecjnnpjaaaGreat
open Go.RowKit Go.Maps Go.Sort
set_option maxRecDepth 100000
set_option linter.unusedSimpArgs false
set_option linter.unusedVariables false

set_option maxHeartbeats 1600000 in
theorem rname_any (s : ByteArray) (w : World) (hs : s.size ≤ maxLen) :
    Calls Tryz.prog 85 #[.string s] w fun e w' => e = .returned (.bool (nameB s)) ∧ w' = w := by
  unfold maxLen at hs
  by_cases h1 : s.size < 1
  · have h1' : (s.size : Int) < 1 := by omega
    go_enter Tryz.func85, Tryz.ntmps85
    go_wp2
    go_ret
    exact ⟨ret_bool (by have : ¬ 1 ≤ s.size := by omega
                        simp [nameB, this]), rfl⟩
  by_cases h2 : 64 < s.size
  · have h1' : ¬ (s.size : Int) < 1 := by omega
    have h2' : 64 < (s.size : Int) := by omega
    go_enter Tryz.func85, Tryz.ntmps85
    go_wp2
    go_ret
    exact ⟨ret_bool (by have : ¬ s.size ≤ 64 := by omega
                        simp [nameB, this]), rfl⟩
  have h1' : ¬ (s.size : Int) < 1 := by omega
  have h2' : ¬ 64 < (s.size : Int) := by omega
  go_enter Tryz.func85, Tryz.ntmps85
  go_wp2
  go_loop [3] (fun i => ∃ k : Nat, k ≤ s.size ∧ i = .int .i64 k ∧ Hid ((s.data.toList.take k).all (fun c => nameByteB (c.toNat : Int)) = true)) (fun i => s.size - (intOf i).toNat)
  case atStart => exact ⟨0, Nat.zero_le _, rfl, by show _ = true; simp⟩
  case round =>
    obtain ⟨k, hk, rfl, hall⟩ := hrel
    by_cases hlt : k < s.size
    · have hb0 : 0 ≤ (s[k].toNat : Int) := by omega
      have hb1 : (s[k].toNat : Int) ≤ 255 := by have := s[k].toNat_lt; omega
      cases hc : nameByteB (s[k].toNat : Int)
      · have H := all_end s k hlt hc
        have HH : Hid ((s.data.toList).all (fun c => nameByteB (c.toNat : Int)) = false) := H
        clear H
        go_wp2
        all_goals first
          | (exfalso; simp [nameByteB] at hc; (try simp only [bne_iff_ne, ne_eq, bne_eq_false_iff_eq] at *); omega)
          | (go_ret; exact ⟨ret_bool (by simp only [nameB, HH.out, Bool.and_false]), rfl⟩)
      · have HH : Hid ((s.data.toList.take (k + 1)).all (fun c => nameByteB (c.toNat : Int)) = true) := by show _ = true; rw [all_step s k hlt, hall.out, hc]; rfl
        go_wp2
        all_goals first
          | (exfalso; simp [nameByteB] at hc; (try simp only [bne_iff_ne, ne_eq, bne_eq_false_iff_eq] at *); omega)
          | exact ⟨⟨k + 1, by omega, by go_num, HH⟩, by simp [intOf]; omega⟩
    · go_wp2
      go_ret
      have hk' : k = s.size := by omega
      subst hk'
      have h3 := hall.out
      rw [List.take_of_length_le (by simp)] at h3
      exact ⟨ret_bool (by simp only [nameB, h3, Bool.and_true]; have : 1 ≤ s.size ∧ s.size ≤ 64 := by omega
                          simp [this]), rfl⟩

set_option maxHeartbeats 1600000 in
theorem rmade_any {w : World} {T : Nat → Prop} {r size : Nat} {v : Value} {l : List AF} (h : RefM w T r size v l) (hl : l.length ≤ 256) (n : ByteArray) (hn : n.size ≤ maxLen) :
    Calls Tryz.prog 70 #[.pointer (some ⟨r, 0, none⟩), .string n] w fun e w' => e = .returned (.int .i64 (admE l n : Int)) ∧ w' = w := by
  have HN := hid (rname_any n w hn)
  have HA := hid (at_any h (by omega) n)
  obtain ⟨oa, cap, rfl, hcap, hcm, hoa, _⟩ := h.shape
  have c1 := h.c1
  unfold admE
  clear h hoa
  cases hb : nameB n with
  | false =>
    rw [hb] at HN
    go_enter Tryz.func70, Tryz.ntmps70
    go_wp2_with fail
    refine HN.out.mono ?_
    rintro e w1 ⟨rfl, h⟩
    have h' := h.symm
    subst h'
    go_wp2_with fail
    go_ret
    exact ⟨rfl, rfl⟩
  | true =>
    rw [hb] at HN
    cases hi : idx l n.data.toList with
    | none =>
      rw [idxI_no hi] at HA
      have hno := (idx_no hi).1
      by_cases h3 : l.length < 256
      · have h3' : ¬ (256 : Int) ≤ (l.length : Int) := by omega
        go_enter Tryz.func70, Tryz.ntmps70
        go_wp2_with fail
        refine HN.out.mono ?_
        rintro e w1 ⟨rfl, h⟩
        have h' := h.symm
        subst h'
        go_wp2_with fail
        refine HA.out.mono ?_
        rintro e w2 ⟨rfl, h⟩
        have h' := h.symm
        subst h'
        go_wp2_with fail
        go_ret
        exact ⟨by simp [h3], rfl⟩
      · have h3' : (256 : Int) ≤ (l.length : Int) := by omega
        go_enter Tryz.func70, Tryz.ntmps70
        go_wp2_with fail
        refine HN.out.mono ?_
        rintro e w1 ⟨rfl, h⟩
        have h' := h.symm
        subst h'
        go_wp2_with fail
        refine HA.out.mono ?_
        rintro e w2 ⟨rfl, h⟩
        have h' := h.symm
        subst h'
        go_wp2_with fail
        go_ret
        exact ⟨by simp [h3, hno], rfl⟩
    | some i =>
      rw [idxI_yes hi] at HA
      obtain ⟨x, _, _, hx, _⟩ := idx_yes hi
      have hi0 : ¬ (i : Int) < 0 := by omega
      go_enter Tryz.func70, Tryz.ntmps70
      go_wp2_with fail
      refine HN.out.mono ?_
      rintro e w1 ⟨rfl, h⟩
      have h' := h.symm
      subst h'
      go_wp2_with fail
      refine HA.out.mono ?_
      rintro e w2 ⟨rfl, h⟩
      have h' := h.symm
      subst h'
      go_wp2_with fail
      go_ret
      exact ⟨by simp [hx], rfl⟩

theorem look_bytes {l : List AF} {n : List UInt8} {x : AF} (h : alook l n = some x) : abytes l n = x.bs ∧ asafe l n = x.safe := by
  unfold abytes asafe
  rw [h]
  exact ⟨rfl, rfl⟩
theorem look_none {l : List AF} {n : List UInt8} (h : alook l n = none) : abytes l n = [] ∧ asafe l n = 0 := by
  unfold abytes asafe
  rw [h]
  exact ⟨rfl, rfl⟩
/-- The row's address, and what lies at a name's place. -/
theorem RefM.place {w : World} {T : Nat → Prop} {r size : Nat} {v : Value} {l : List AF} (h : RefM w T r size v l) {i : Nat} {x : AF} (hx : l[i]? = some x) : ∃ g cap, v = .slice (some ⟨g, 0, none⟩) l.length cap ∧ l.length ≤ cap ∧ cap ≤ maxLen := by
  obtain ⟨oa, cap, rfl, hcap, hcm, hoa, _⟩ := h.shape
  obtain ⟨g, rfl⟩ := hoa (by have := (List.getElem?_eq_some_iff.1 hx).1; omega)
  exact ⟨g, cap, rfl, hcap, hcm⟩

set_option maxHeartbeats 1600000 in
theorem rread_any {w : World} {T : Nat → Prop} {r size : Nat} {v : Value} {l : List AF} (h : RefM w T r size v l) (hl : l.length ≤ 256) (n : ByteArray) :
    Calls Tryz.prog 24 #[.pointer (some ⟨r, 0, none⟩), .string n] w fun e w' => e = .returned (.tuple #[.string (strOf (abytes l n.data.toList)), .int .i64 (synE l n : Int)]) ∧ w' = w := by
  have HA := hid (at_any h (by omega) n)
  unfold synE
  cases hi : idx l n.data.toList with
  | none =>
    rw [idxI_no hi] at HA
    have hno := (idx_no hi).1
    rw [(look_none hno).1, hno]
    clear h hno
    go_enter Tryz.func24, Tryz.ntmps24
    go_wp2_with fail
    refine HA.out.mono ?_
    rintro e w2 ⟨rfl, h⟩
    have h' := h.symm
    subst h'
    go_wp2_with fail
    go_ret2
    exact ⟨rfl, rfl⟩
  | some i =>
    rw [idxI_yes hi] at HA
    obtain ⟨x, hx, _, hlk, hil⟩ := idx_yes hi
    rw [(look_bytes hlk).1, hlk]
    obtain ⟨g, cap, rfl, hcap, hcm⟩ := h.place hx
    have c1 := h.c1
    have p1 := (h.at_ i x hx).2.1
    have hi0 : ¬ (i : Int) < 0 := by omega
    have hil' : (i : Int) < (l.length : Int) := by omega
    clear h
    go_enter Tryz.func24, Tryz.ntmps24
    go_wp2_with fail
    refine HA.out.mono ?_
    rintro e w2 ⟨rfl, h⟩
    have h' := h.symm
    subst h'
    go_wp2_with fail
    go_ret2
    exact ⟨rfl, rfl⟩

end Go.Proofs.YtjggdecjnnpjaaaGreat

/- What the document's disk does in place: Sync, Cut, Remove. -/
namespace Go.Proofs.YtjggdecjnnpjaaaGreat
open Go.RowKit Go.Maps Go.Sort
set_option maxRecDepth 100000
set_option linter.unusedSimpArgs false
set_option linter.unusedVariables false

theorem set_set {l : List AF} {i : Nat} {x y : AF} : (l.set i x).set i y = l.set i y := by simp
theorem set_at {l : List AF} {i : Nat} {x y : AF} (h : l[i]? = some x) : (l.set i y)[i]? = some y := by
  have hl := (List.getElem?_eq_some_iff.1 h).1
  simp [hl]

theorem extract_take2 (l : List UInt8) (k : Nat) : (strOf l).extract 0 k = strOf (l.take k) := by
  apply ByteArray.ext
  simp [strOf]
theorem cut_at {l : List AF} {i : Nat} {x : AF} (hs : Srt l) (hx : l[i]? = some x) (b : List UInt8) (s : Nat) : aput l ⟨x.name, b, s⟩ = l.set i ⟨x.name, b, s⟩ := aput_at hs hx rfl

end Go.Proofs.YtjggdecjnnpjaaaGreat

