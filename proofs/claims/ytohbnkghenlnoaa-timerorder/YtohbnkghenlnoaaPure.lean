/- Timers as lists, without memory: the order, the heap's moves, and that they keep the heap. -/
import Derived.Test.YtohbnkghenlnoaaRows
namespace Go.Proofs.Ytohbnkghenlnoaa
set_option linter.unusedSimpArgs false
set_option linter.unusedVariables false

/-- A timer: its key, its tick. -/
structure Tm where
  key : Int
  tick : Int

/-- x is due ahead of y. -/
def bef (x y : Tm) : Bool := decide (x.tick < y.tick) || (decide (x.tick = y.tick) && decide (x.key < y.key))

theorem bef_iff (x y : Tm) : bef x y = true ↔ x.tick < y.tick ∨ (x.tick = y.tick ∧ x.key < y.key) := by simp [bef]
theorem bef_false (x y : Tm) : bef x y = false ↔ y.tick < x.tick ∨ (x.tick = y.tick ∧ y.key ≤ x.key) := by
  rw [← Bool.not_eq_true, bef_iff]; omega

/-- x is no later than y. -/
def le (x y : Tm) : Prop := x.tick < y.tick ∨ (x.tick = y.tick ∧ x.key ≤ y.key)
theorem le_refl (x : Tm) : le x x := by unfold le; omega
theorem le_trans {x y z : Tm} (h : le x y) (h' : le y z) : le x z := by unfold le at *; omega
theorem le_of_bef {x y : Tm} (h : bef x y = true) : le x y := by rw [bef_iff] at h; unfold le; omega
theorem le_of_not {x y : Tm} (h : bef x y = false) : le y x := by rw [bef_false] at h; unfold le; omega
theorem le_antisymm {x y : Tm} (h : le x y) (h' : le y x) : x = y := by
  unfold le at *
  have h1 : x.key = y.key := by omega
  have h2 : x.tick = y.tick := by omega
  cases x; cases y; simp_all

/-- What stands at a place. -/
def g (l : List Tm) (i : Nat) : Tm := l.getD i ⟨0, 0⟩

theorem g_eq {l : List Tm} {i : Nat} {x : Tm} (h : l[i]? = some x) : g l i = x := by simp [g, List.getD_eq_getElem?_getD, h]
theorem g_some {l : List Tm} {i : Nat} (h : i < l.length) : l[i]? = some (g l i) := by simp [g, List.getD_eq_getElem?_getD, List.getElem?_eq_getElem h]
theorem g_mem {l : List Tm} {i : Nat} (h : i < l.length) : g l i ∈ l := by
  have := g_some h
  exact List.mem_of_getElem? this
theorem ext_g {l m : List Tm} (hl : l.length = m.length) (h : ∀ i, i < l.length → g l i = g m i) : l = m := by
  apply List.ext_getElem? ; intro i
  by_cases hi : i < l.length
  · rw [g_some hi, g_some (hl ▸ hi), h i hi]
  · rw [List.getElem?_eq_none (by omega), List.getElem?_eq_none (by omega)]

def swp (l : List Tm) (i j : Nat) : List Tm := (l.set i (g l j)).set j (g l i)
theorem swp_len (l : List Tm) (i j : Nat) : (swp l i j).length = l.length := by simp [swp]
theorem g_set (l : List Tm) (i k : Nat) (x : Tm) (hi : i < l.length) : g (l.set i x) k = if k = i then x else g l k := by
  unfold g
  simp only [List.getD_eq_getElem?_getD, List.getElem?_set]
  by_cases e : i = k
  · subst e; simp [hi]
  · simp [e, Ne.symm e]
theorem g_swp (l : List Tm) (i j k : Nat) (hi : i < l.length) (hj : j < l.length) : g (swp l i j) k = if k = j then g l i else if k = i then g l j else g l k := by
  unfold swp
  rw [g_set _ _ _ _ (by simpa using hj), g_set _ _ _ _ hi]

theorem swp_perm (l : List Tm) (i j : Nat) (hi : i < l.length) (hj : j < l.length) : (swp l i j).Perm l := by
  have h := Array.swap_perm (xs := l.toArray) (i := i) (j := j) (by simpa using hi) (by simpa using hj)
  have h2 := Array.perm_iff_toList_perm.1 h
  rw [Array.toList_swap] at h2
  have e1 : l.toArray[i]'(by simpa using hi) = g l i := by
    have := g_some hi; rw [List.getElem?_eq_getElem hi] at this; simpa using this
  have e2 : l.toArray[j]'(by simpa using hj) = g l j := by
    have := g_some hj; rw [List.getElem?_eq_getElem hj] at this; simpa using this
  rw [e1, e2] at h2
  exact h2

/-- heap.up. -/
def upL (l : List Tm) (j : Nat) : List Tm :=
  if h : j = 0 then l else if bef (g l j) (g l ((j - 1) / 2)) then upL (swp l ((j - 1) / 2) j) ((j - 1) / 2) else l
  termination_by j
  decreasing_by omega

/-- The child that heap.down looks at. -/
def kid (l : List Tm) (i n : Nat) : Nat := if 2 * i + 2 < n ∧ bef (g l (2 * i + 2)) (g l (2 * i + 1)) = true then 2 * i + 2 else 2 * i + 1
theorem kid_or (l : List Tm) (i n : Nat) : (kid l i n = 2 * i + 1) ∨ (kid l i n = 2 * i + 2 ∧ 2 * i + 2 < n) := by unfold kid; split <;> simp_all
/-- heap.down. -/
def downL (l : List Tm) (i n : Nat) : List Tm × Nat :=
  if h : n ≤ 2 * i + 1 then (l, i) else if bef (g l (kid l i n)) (g l i) then downL (swp l i (kid l i n)) (kid l i n) n else (l, i)
  termination_by n - i
  decreasing_by have := kid_or l i n; omega

theorem upL_len : ∀ (j : Nat) (l : List Tm), (upL l j).length = l.length := by
  intro j
  induction j using Nat.strongRecOn with
  | _ j ih =>
    intro l
    rw [upL]
    split
    · rfl
    · split
      · rw [ih _ (by omega), swp_len]
      · rfl

theorem downL_len (n : Nat) : ∀ (k i : Nat) (l : List Tm), n - i ≤ k → (downL l i n).1.length = l.length := by
  intro k
  induction k with
  | zero => intro i l h; rw [downL, dif_pos (by omega)]
  | succ k ih =>
    intro i l h
    rw [downL]
    split
    · rfl
    · split
      · have := kid_or l i n
        rw [ih _ _ (by omega), swp_len]
      · rfl

theorem upL_perm : ∀ (j : Nat) (l : List Tm), j < l.length → (upL l j).Perm l := by
  intro j
  induction j using Nat.strongRecOn with
  | _ j ih =>
    intro l hj
    rw [upL]
    split
    · exact .refl _
    · split
      · exact (ih _ (by omega) _ (by rw [swp_len]; omega)).trans (swp_perm l _ _ (by omega) hj)
      · exact .refl _

/-- Places from n on are as they were; the rest are moved among each other. -/
theorem downL_keep (n : Nat) : ∀ (k i : Nat) (l : List Tm), n - i ≤ k → n ≤ l.length → i < n → (downL l i n).1.Perm l ∧ ∀ m, n ≤ m → g (downL l i n).1 m = g l m := by
  intro k
  induction k with
  | zero => intro i l h hn hi; omega
  | succ k ih =>
    intro i l h hn hi
    rw [downL]
    split
    · exact ⟨.refl _, fun m hm => rfl⟩
    · split
      · have hk := kid_or l i n
        obtain ⟨h1, h2⟩ := ih (kid l i n) (swp l i (kid l i n)) (by omega) (by rw [swp_len]; exact hn) (by omega)
        refine ⟨h1.trans (swp_perm l _ _ (by omega) (by omega)), fun m hm => ?_⟩
        rw [h2 m hm, g_swp _ _ _ _ (by omega) (by omega), if_neg (by omega), if_neg (by omega)]
      · exact ⟨.refl _, fun m hm => rfl⟩

theorem upL_keep : ∀ (j : Nat) (l : List Tm), j < l.length → ∀ m, j < m → g (upL l j) m = g l m := by
  intro j
  induction j using Nat.strongRecOn with
  | _ j ih =>
    intro l hj m hm
    rw [upL]
    split
    · rfl
    · split
      · rw [ih _ (by omega) _ (by rw [swp_len]; omega) m (by omega), g_swp _ _ _ _ (by omega) hj, if_neg (by omega), if_neg (by omega)]
      · rfl

def par (i : Nat) : Nat := (i - 1) / 2

/-- The first n are a heap. -/
def Heap (l : List Tm) (n : Nat) : Prop := ∀ k, 0 < k → k < n → le (g l (par k)) (g l k)
def UpInv (l : List Tm) (n j : Nat) : Prop := (∀ k, 0 < k → k < n → k ≠ j → le (g l (par k)) (g l k)) ∧ ∀ c, 0 < c → c < n → par c = j → 0 < j → le (g l (par j)) (g l c)
def DownInv (l : List Tm) (n i : Nat) : Prop := (∀ k, 0 < k → k < n → par k ≠ i → le (g l (par k)) (g l k)) ∧ ∀ c, 0 < c → c < n → par c = i → 0 < i → le (g l (par i)) (g l c)
def FixInv (l : List Tm) (n i : Nat) : Prop := (∀ k, 0 < k → k < n → k ≠ i → par k ≠ i → le (g l (par k)) (g l k)) ∧ ∀ c, 0 < c → c < n → par c = i → 0 < i → le (g l (par i)) (g l c)

theorem up_heap (n : Nat) : ∀ (j : Nat) (l : List Tm), n ≤ l.length → j < n → UpInv l n j → Heap (upL l j) n := by
  intro j
  induction j using Nat.strongRecOn with
  | _ j ih =>
    intro l hn hj hI
    rw [upL]
    split
    · rename_i h0
      intro k hk hkn
      exact hI.1 k hk hkn (by omega)
    · rename_i h0
      split
      · rename_i hb
        refine ih ((j - 1) / 2) (by omega) _ (by rw [swp_len]; exact hn) (by omega) ⟨fun k hk hkn hkj => ?_, fun c hc hcn hpc h0' => ?_⟩
        · have hs := fun k => g_swp l ((j - 1) / 2) j k (by omega) (by omega)
          rw [hs, hs]
          have hle := le_of_bef hb
          by_cases e : k = j
          · subst e
            rw [if_neg (by unfold par; omega), if_pos (show par k = (k - 1) / 2 from rfl), if_pos rfl]
            exact hle
          · rw [if_neg (show ¬ k = j from e), if_neg hkj]
            by_cases e1 : par k = j
            · rw [if_pos e1]
              exact hI.2 k hk hkn e1 (by omega)
            · rw [if_neg e1]
              by_cases e2 : par k = (j - 1) / 2
              · rw [if_pos e2]
                have := hI.1 k hk hkn e
                rw [e2] at this
                exact le_trans hle this
              · rw [if_neg e2]
                exact hI.1 k hk hkn e
        · have hs := fun k => g_swp l ((j - 1) / 2) j k (by omega) (by omega)
          rw [hs, hs]
          have hpp : par ((j - 1) / 2) ≠ j := by unfold par; omega
          have hpp' : par ((j - 1) / 2) ≠ (j - 1) / 2 := by unfold par; omega
          rw [if_neg hpp, if_neg hpp']
          have hgp := hI.1 ((j - 1) / 2) h0' (by omega) (by omega)
          by_cases e : c = j
          · rw [if_pos e]
            exact hgp
          · rw [if_neg e, if_neg (by unfold par at hpc; omega)]
            have := hI.1 c hc hcn e
            rw [hpc] at this
            exact le_trans hgp this
      · rename_i hb
        intro k hk hkn
        by_cases e : k = j
        · subst e
          exact le_of_not (show bef (g l k) (g l ((k - 1) / 2)) = false by simpa using hb)
        · exact hI.1 k hk hkn e

theorem kid_min {l : List Tm} {i n : Nat} (h : 2 * i + 1 < n) : ∀ c, 0 < c → c < n → par c = i → le (g l (kid l i n)) (g l c) := by
  intro c hc hcn hp
  unfold par at hp
  have hc' : c = 2 * i + 1 ∨ c = 2 * i + 2 := by omega
  unfold kid
  split
  · rename_i hh
    rcases hc' with rfl | rfl
    · exact le_of_bef hh.2
    · exact le_refl _
  · rename_i hh
    rcases hc' with rfl | rfl
    · exact le_refl _
    · have : bef (g l (2 * i + 2)) (g l (2 * i + 1)) = false := by
        cases hb : bef (g l (2 * i + 2)) (g l (2 * i + 1)) with
        | false => rfl
        | true => exact absurd ⟨hcn, hb⟩ hh
      exact le_of_not this

/-- A move down, from a place whose parent's edge may be broken, leaves only the child's edges in question. -/
theorem fix_move {l : List Tm} {n i : Nat} (hn : n ≤ l.length) (hi : 2 * i + 1 < n) (hI : FixInv l n i) (hb : bef (g l (kid l i n)) (g l i) = true) : DownInv (swp l i (kid l i n)) n (kid l i n) := by
  have hk := kid_or l i n
  have hmin := kid_min (l := l) hi
  generalize kid l i n = j at hb hk hmin ⊢
  have hjn : j < n := by omega
  have hs := fun k => g_swp l i j k (by omega) (by omega)
  have hle := le_of_bef hb
  have hpj : par j = i := by unfold par; omega
  refine ⟨fun k hk0 hkn hp => ?_, fun c hc hcn hp h0 => ?_⟩
  · rw [hs, hs]
    by_cases e : k = j
    · subst e
      rw [if_neg (by unfold par; omega), if_pos hpj, if_pos rfl]
      exact hle
    · rw [if_neg e, if_neg hp]
      by_cases e1 : k = i
      · rw [if_pos e1]
        subst e1
        rw [if_neg (by unfold par; omega)]
        exact hI.2 j (by omega) hjn hpj hk0
      · rw [if_neg e1]
        by_cases e2 : par k = i
        · rw [if_pos e2]
          exact hmin k hk0 hkn e2
        · rw [if_neg e2]
          exact hI.1 k hk0 hkn e1 e2
  · rw [hs, hs, hpj]
    have hcj : c ≠ j := by unfold par at hp; omega
    have hci : c ≠ i := by unfold par at hp; omega
    rw [if_neg (by omega), if_pos rfl, if_neg hcj, if_neg hci, ← hp]
    exact hI.1 c hc hcn hci (by unfold par at *; omega)

theorem DownInv.fix {l : List Tm} {n i : Nat} (h : DownInv l n i) : FixInv l n i := ⟨fun k a b _ d => h.1 k a b d, h.2⟩

theorem down_heap (n : Nat) : ∀ (m i : Nat) (l : List Tm), n - i ≤ m → n ≤ l.length → DownInv l n i → Heap (downL l i n).1 n := by
  intro m
  induction m with
  | zero =>
    intro i l h hn hI
    rw [downL, dif_pos (by omega)]
    exact fun k a b => hI.1 k a b (by unfold par; omega)
  | succ m ih =>
    intro i l h hn hI
    rw [downL]
    split
    · exact fun k a b => hI.1 k a b (by unfold par; omega)
    · rename_i hlt
      split
      · rename_i hb
        have hk := kid_or l i n
        exact ih _ _ (by omega) (by rw [swp_len]; exact hn) (fix_move hn (by omega) hI.fix hb)
      · rename_i hb
        have hmin := kid_min (l := l) (i := i) (n := n) (by omega)
        intro k a b
        by_cases e : par k = i
        · rw [e]
          exact le_trans (le_of_not (by simpa using hb)) (hmin k a b e)
        · exact hI.1 k a b e

theorem down_ge (n : Nat) : ∀ (m i : Nat) (l : List Tm), n - i ≤ m → i ≤ (downL l i n).2 := by
  intro m
  induction m with
  | zero => intro i l h; rw [downL, dif_pos (by omega)]; exact Nat.le_refl _
  | succ m ih =>
    intro i l h
    rw [downL]
    split
    · exact Nat.le_refl _
    · split
      · have hk := kid_or l i n
        have := ih (kid l i n) (swp l i (kid l i n)) (by omega)
        omega
      · exact Nat.le_refl _

/-- heap.down and, where it moved nothing, heap.up. -/
def fixL (l : List Tm) (i n : Nat) : List Tm := if i < (downL l i n).2 then (downL l i n).1 else upL (downL l i n).1 i

theorem fix_heap {l : List Tm} {n i : Nat} (hn : n ≤ l.length) (hi : i < n) (hI : FixInv l n i) : Heap (fixL l i n) n := by
  unfold fixL
  by_cases h : n ≤ 2 * i + 1
  · have e : downL l i n = (l, i) := by rw [downL, dif_pos h]
    rw [e, if_neg (by simp)]
    exact up_heap n i l hn hi ⟨fun k a b c => hI.1 k a b c (by unfold par; omega), hI.2⟩
  · by_cases hb : bef (g l (kid l i n)) (g l i) = true
    · have hk := kid_or l i n
      have e : downL l i n = downL (swp l i (kid l i n)) (kid l i n) n := by rw [downL, dif_neg h, if_pos hb]
      have := down_ge n _ (kid l i n) (swp l i (kid l i n)) (Nat.le_refl _)
      rw [e, if_pos (by omega)]
      exact down_heap n _ _ _ (Nat.le_refl _) (by rw [swp_len]; exact hn) (fix_move hn (by omega) hI hb)
    · have e : downL l i n = (l, i) := by rw [downL, dif_neg h, if_neg hb]
      rw [e, if_neg (by simp)]
      have hmin := kid_min (l := l) (i := i) (n := n) (by omega)
      refine up_heap n i l hn hi ⟨fun k a b c => ?_, hI.2⟩
      by_cases e : par k = i
      · rw [e]
        exact le_trans (le_of_not (by simpa using hb)) (hmin k a b e)
      · exact hI.1 k a b c e

theorem fixL_perm {l : List Tm} {n i : Nat} (hn : n ≤ l.length) (hi : i < n) : (fixL l i n).Perm l ∧ ∀ m, n ≤ m → g (fixL l i n) m = g l m := by
  obtain ⟨h1, h2⟩ := downL_keep n _ i l (Nat.le_refl _) hn hi
  have hl := downL_len n _ i l (Nat.le_refl _)
  unfold fixL
  split
  · exact ⟨h1, h2⟩
  · exact ⟨(upL_perm i _ (by omega)).trans h1, fun m hm => by rw [upL_keep i _ (by omega) m (by omega)]; exact h2 m hm⟩

/-- The root is no later than any. -/
theorem Heap.root {l : List Tm} {n : Nat} (h : Heap l n) : ∀ k, k < n → le (g l 0) (g l k) := by
  intro k
  induction k using Nat.strongRecOn with
  | _ k ih =>
    intro hk
    by_cases e : k = 0
    · subst e; exact le_refl _
    · exact le_trans (ih (par k) (by unfold par; omega) (by unfold par; omega)) (h k (by omega) hk)

theorem Heap.min {l : List Tm} (h : Heap l l.length) {x : Tm} (hx : x ∈ l) : le (g l 0) x := by
  obtain ⟨k, hk, rfl⟩ := List.getElem_of_mem hx
  have := h.root k hk
  rwa [show g l k = l[k] from g_eq (List.getElem?_eq_getElem hk)] at this

end Go.Proofs.Ytohbnkghenlnoaa
