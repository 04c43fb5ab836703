/- Timers as a list in the order in which they are due; what the heap's moves are for it. -/
import Derived.Test.YtohbnkghenlnoaaPure
namespace Go.Proofs.Ytohbnkghenlnoaa
set_option linter.unusedSimpArgs false
set_option linter.unusedVariables false

def Sorted (s : List Tm) : Prop := s.Pairwise fun x y => bef x y = true
def Keys (s : List Tm) : Prop := s.Pairwise fun x y => x.key ≠ y.key
def del (s : List Tm) (k : Int) : List Tm := s.filter fun x => !(x.key == k)
def ins (x : Tm) : List Tm → List Tm
  | [] => [x]
  | y :: r => if bef x y then x :: y :: r else y :: ins x r
def atL (s : List Tm) (k : Int) : Int := match s.find? (fun x => x.key == k) with | some x => x.tick | none => -1
def nextL (s : List Tm) : Int := match s with | [] => -1 | x :: _ => x.tick
def hasL (s : List Tm) (k : Int) : Bool := s.any fun x => x.key == k

theorem mem_del {s : List Tm} {k : Int} {x : Tm} : x ∈ del s k ↔ x ∈ s ∧ x.key ≠ k := by simp [del]
theorem del_none {s : List Tm} {k : Int} (h : ∀ x ∈ s, x.key ≠ k) : del s k = s := by
  unfold del; rw [List.filter_eq_self]; intro x hx; simpa using h x hx
theorem del_perm {l s : List Tm} (h : l.Perm s) (k : Int) : (del l k).Perm (del s k) := h.filter _
theorem ins_perm (x : Tm) : ∀ s : List Tm, (ins x s).Perm (x :: s)
  | [] => .refl _
  | y :: r => by
    unfold ins
    split
    · exact .refl _
    · exact ((ins_perm x r).cons y).trans (.swap _ _ _)
theorem mem_ins {x y : Tm} {s : List Tm} : y ∈ ins x s ↔ y = x ∨ y ∈ s := by rw [(ins_perm x s).mem_iff]; simp
theorem del_sorted {s : List Tm} (h : Sorted s) (k : Int) : Sorted (del s k) := List.Pairwise.filter _ h
theorem del_keys {s : List Tm} (h : Keys s) (k : Int) : Keys (del s k) := List.Pairwise.filter _ h
theorem bef_trans {x y z : Tm} (h : bef x y = true) (h' : bef y z = true) : bef x z = true := by rw [bef_iff] at *; omega
theorem bef_total {x y : Tm} (h : x.key ≠ y.key) (h' : bef x y = false) : bef y x = true := by rw [bef_false] at h'; rw [bef_iff]; omega
theorem ins_sorted (x : Tm) : ∀ s : List Tm, Sorted s → (∀ y ∈ s, x.key ≠ y.key) → Sorted (ins x s)
  | [], _, _ => by simp [ins, Sorted]
  | y :: r, h, hx => by
    have h' := List.pairwise_cons.1 h
    unfold ins
    split
    · rename_i hb
      refine List.Pairwise.cons (fun z hz => ?_) h
      rcases List.mem_cons.1 hz with rfl | hz
      · exact hb
      · exact bef_trans hb (h'.1 z hz)
    · rename_i hb
      refine List.Pairwise.cons (fun z hz => ?_) (ins_sorted x r h'.2 (fun z hz => hx z (List.mem_cons_of_mem _ hz)))
      rcases mem_ins.1 hz with rfl | hz
      · exact bef_total (hx y (by simp)) (by simpa using hb)
      · exact h'.1 z hz
theorem keys_perm {l s : List Tm} (h : l.Perm s) (hk : Keys l) : Keys s := hk.perm h (fun hab => fun e => hab e.symm)
theorem cons_keys {x : Tm} {s : List Tm} (h : Keys s) (hx : ∀ y ∈ s, x.key ≠ y.key) : Keys (x :: s) := List.Pairwise.cons hx h
theorem len_ins (x : Tm) (s : List Tm) : (ins x s).length = s.length + 1 := by rw [(ins_perm x s).length_eq]; rfl

theorem find_key {k : Int} : ∀ s : List Tm, Keys s → ∀ x ∈ s, x.key = k → s.find? (fun x => x.key == k) = some x
  | [], _, x, h, _ => by simp at h
  | y :: r, hk, x, hx, e => by
    have h' := List.pairwise_cons.1 hk
    rw [List.find?_cons]
    rcases List.mem_cons.1 hx with rfl | hx
    · simp [e]
    · have : (y.key == k) = false := by have := h'.1 x hx; rw [e] at this; simpa using this
      rw [this]
      exact find_key r h'.2 x hx e
theorem atL_mem {s : List Tm} (hk : Keys s) {x : Tm} (hx : x ∈ s) : atL s x.key = x.tick := by unfold atL; rw [find_key s hk x hx rfl]
theorem atL_none {s : List Tm} {k : Int} (h : ∀ x ∈ s, x.key ≠ k) : atL s k = -1 := by
  unfold atL
  rw [List.find?_eq_none.2 (fun x hx => by simpa using h x hx)]
theorem hasL_iff {s : List Tm} {k : Int} : hasL s k = true ↔ ∃ x ∈ s, x.key = k := by simp [hasL]
theorem hasL_false {s : List Tm} {k : Int} : hasL s k = false ↔ ∀ x ∈ s, x.key ≠ k := by simp [hasL]

theorem set_perm (y : Tm) : ∀ (l : List Tm) (i : Nat), Keys l → i < l.length → (l.set i y).Perm (y :: del l (g l i).key)
  | [], i, _, h => by simp at h
  | x :: r, 0, hk, _ => by
    have h' := List.pairwise_cons.1 hk
    have e : g (x :: r) 0 = x := rfl
    rw [e]
    have e2 : del (x :: r) x.key = r := by
      unfold del
      rw [List.filter_cons]
      simp only [beq_self_eq_true, Bool.not_true, Bool.false_eq_true, if_false]
      exact del_none (fun z hz => fun e => h'.1 z hz e.symm)
    rw [e2]
    exact .refl _
  | x :: r, i + 1, hk, h => by
    have h' := List.pairwise_cons.1 hk
    have hi : i < r.length := by simpa using h
    have e : g (x :: r) (i + 1) = g r i := rfl
    rw [e]
    have hne : x.key ≠ (g r i).key := h'.1 _ (g_mem hi)
    have e2 : del (x :: r) (g r i).key = x :: del r (g r i).key := by
      unfold del
      rw [List.filter_cons]
      have : (x.key == (g r i).key) = false := by simpa using hne
      simp only [this, Bool.not_false, if_true]
    rw [e2, List.set_cons_succ]
    exact ((set_perm y r i h'.2 hi).cons x).trans (.swap _ _ _)

theorem self_perm (l : List Tm) (i : Nat) (hk : Keys l) (hi : i < l.length) : l.Perm (g l i :: del l (g l i).key) := by
  have h := set_perm (g l i) l i hk hi
  have e : l.set i (g l i) = l := by
    apply ext_g (by simp)
    intro k hk
    rw [g_set l i k _ hi]
    split
    · rename_i e; rw [e]
    · rfl
  rwa [e] at h

theorem Heap.push {l : List Tm} (h : Heap l l.length) (x : Tm) : UpInv (l ++ [x]) (l.length + 1) l.length := by
  have hg : ∀ k, k < l.length → g (l ++ [x]) k = g l k := fun k hk => by simp [g, List.getD_eq_getElem?_getD, List.getElem?_append_left hk]
  refine ⟨fun k hk hkn hne => ?_, fun c hc hcn hp h0 => ?_⟩
  · rw [hg k (by omega), hg (par k) (by unfold par; omega)]
    exact h k hk (by omega)
  · unfold par at hp; omega

theorem Heap.set {l : List Tm} (h : Heap l l.length) (i : Nat) (hi : i < l.length) (y : Tm) : FixInv (l.set i y) l.length i := by
  have hg := fun k => g_set l i k y hi
  refine ⟨fun k hk hkn hne hp => ?_, fun c hc hcn hp h0 => ?_⟩
  · rw [hg, hg, if_neg hp, if_neg hne]
    exact h k hk hkn
  · rw [hg, hg, if_neg (by unfold par; omega), if_neg (by unfold par at hp; omega)]
    have h1 := h c hc hcn
    rw [hp] at h1
    exact le_trans (h i h0 hi) h1

theorem Heap.drop {l : List Tm} {n : Nat} (h : Heap l (n + 1)) (i : Nat) (hi : i < n) (hn : n + 1 = l.length) : FixInv (swp l i n) n i := by
  have hg := fun k => g_swp l i n k (by omega) (by omega)
  refine ⟨fun k hk hkn hne hp => ?_, fun c hc hcn hp h0 => ?_⟩
  · rw [hg, hg, if_neg (by unfold par; omega), if_neg hp, if_neg (by omega), if_neg hne]
    exact h k hk (by omega)
  · rw [hg, hg, if_neg (by unfold par; omega), if_neg (by unfold par; omega), if_neg (by omega), if_neg (by unfold par at hp; omega)]
    have h1 := h c hc (by omega)
    rw [hp] at h1
    exact le_trans (h i h0 (by omega)) h1

theorem Heap.take {l : List Tm} {n : Nat} (h : Heap l n) (hn : n ≤ l.length) : Heap (l.take n) (l.take n).length := by
  have hl : (l.take n).length = n := by simp; omega
  have hg : ∀ k, k < n → g (l.take n) k = g l k := fun k hk => by simp [g, List.getD_eq_getElem?_getD, List.getElem?_take, hk]
  rw [hl]
  intro k hk hkn
  rw [hg k hkn, hg (par k) (by unfold par; omega)]
  exact h k hk hkn

theorem take_last {l : List Tm} {n : Nat} (hn : n + 1 = l.length) : l = l.take n ++ [g l n] := by
  have h := List.take_append_drop n l
  have e : l.drop n = [g l n] := by
    have h1 : n < l.length := by omega
    rw [List.drop_eq_getElem_cons h1, List.drop_of_length_le (by omega)]
    have := g_some h1
    rw [List.getElem?_eq_getElem h1] at this
    simpa using this
  rw [e] at h
  exact h.symm

theorem dropped_perm {l l' : List Tm} {n i : Nat} (hk : Keys l) (hp : l'.Perm l) (hn : n + 1 = l.length) (hi : i < l.length) (hg : g l' n = g l i) : (l'.take n).Perm (del l (g l i).key) := by
  have hl := hp.length_eq
  have h1 := take_last (l := l') (n := n) (by omega)
  have h2 : (g l i :: l'.take n).Perm (g l i :: del l (g l i).key) := by
    refine List.Perm.trans ?_ (hp.trans (self_perm l i hk hi))
    rw [h1, hg]
    have hl2 : (l'.take n).length = n := by simp; omega
    rw [List.take_append_of_le_length (by omega), List.take_take]
    simp only [Nat.min_self]
    exact (List.perm_append_singleton _ _).symm
  exact h2.cons_inv

end Go.Proofs.Ytohbnkghenlnoaa
