/- A region that draws its order: what is read there may be read first, also where the last operation of all writes what was read. -/
import Derived.Test.YtcffomhcmilcpaaGreatA19
import Derived.Deep.RegionHeld3
namespace Go.Proofs.YtcffomhcmilcpaaGreat
open Go.RowKit Go.Maps
set_option linter.unusedSimpArgs false
set_option linter.unusedVariables false
section
variable {P : Program} {ops : Array Oper} {Q : Exit → Act → World → Prop} {md : Region.Mode} {S : World → Prop} {z : Nat}

/-- In whatever order: S holds behind each operation but number z. -/
def ButLast (P : Program) (md : Region.Mode) (ops : Array Oper) (Q : Exit → Act → World → Prop) (S : World → Prop) (z : Nat) : Nat → Array Bool → Act → World → Prop
  | 0, gone, a, w => Region.ready md ops gone = [] ∧ Q .normal a w
  | n + 1, gone, a, w => (Region.ready md ops gone = [] → Q .normal a w) ∧ ∀ k ∈ Region.ready md ops gone, wpOp P ops Q k (fun b u => (k ≠ z → S u) ∧ ButLast P md ops Q S z n (gone.setIfInBounds k true) b u) a w

theorem ButLast.any : ∀ {n : Nat} {gone : Array Bool} {a : Act} {w : World}, ButLast P md ops Q S z n gone a w → wpAny P md ops Q n gone a w
  | 0, _, _, _, h => h
  | _ + 1, _, _, _, h => ⟨h.1, fun k hk => wpOp_mono (fun _ _ hh => hh.2.any) (h.2 k hk)⟩

/-- Whose turn has come has had all that it waits for. -/
def Shutd (md : Region.Mode) (ops : Array Oper) (gone : Array Bool) : Prop := ∀ k o, ops[k]? = some o → gone.getD k false = true → ∀ e ∈ o.after, Region.binds md e = true → gone.getD e.on false = true
def shutB (md : Region.Mode) (ops : Array Oper) (gone : Array Bool) : Bool :=
  (List.range ops.size).all fun k => !(gone.getD k false) || match ops[k]? with | some o => o.after.all fun e => !(Region.binds md e) || gone.getD e.on false | none => true
theorem shut_of {gone : Array Bool} (h : shutB md ops gone = true) : Shutd md ops gone := by
  intro k o ho hk e he hb
  have hlt : k < ops.size := by
    rcases Nat.lt_or_ge k ops.size with h' | h'
    · exact h'
    · rw [Array.getElem?_eq_none h'] at ho; cases ho
  have h1 := List.all_eq_true.1 h k (List.mem_range.2 hlt)
  rw [hk, ho] at h1
  simp only [Bool.not_true, Bool.false_or] at h1
  have h2 := Array.all_eq_true_iff_forall_mem.1 h1 e he
  rw [hb] at h2
  simpa using h2
theorem Shutd.next {gone : Array Bool} {k : Nat} (h : Shutd md ops gone) (hk : k ∈ Region.ready md ops gone) : Shutd md ops (gone.setIfInBounds k true) := by
  intro j o ho hj e he hb
  obtain ⟨_, o', ho', hall⟩ := mem_ready.1 hk
  by_cases ejk : k = j
  · subst ejk
    have e1 : o' = o := by rw [ho] at ho'; exact (Option.some.inj ho').symm
    subst e1
    exact getD_set_true (hall e he hb)
  · rw [getD_set_ne false ejk] at hj
    exact getD_set_true (h j o ho hj e he hb)
def edgeB (md : Region.Mode) (ops : Array Oper) (k j : Nat) : Bool := match ops[k]? with | some o => o.after.any fun e => Region.binds md e && e.on == j | none => false
def pathB (md : Region.Mode) (ops : Array Oper) : Nat → List Nat → Bool
  | _, [] => true
  | k, j :: r => edgeB md ops k j && pathB md ops j r
theorem path_gone {gone : Array Bool} (hs : Shutd md ops gone) (i : Nat) : ∀ (l : List Nat) (k : Nat), (∀ o, ops[k]? = some o → ∀ e ∈ o.after, Region.binds md e = true → gone.getD e.on false = true) → pathB md ops k (l ++ [i]) = true → gone.getD i false = true
  | [], k, hk, h => by
    simp only [List.nil_append, pathB, Bool.and_true] at h
    unfold edgeB at h
    split at h
    · rename_i o ho
      obtain ⟨x, hx, h2⟩ := Array.any_eq_true.1 h
      have he := Array.getElem_mem hx
      generalize o.after[x] = e at *
      rw [Bool.and_eq_true, beq_iff_eq] at h2
      have := hk o ho e he h2.1
      rwa [h2.2] at this
    · cases h
  | j :: r, k, hk, h => by
    simp only [List.cons_append, pathB, Bool.and_eq_true] at h
    have h1 := h.1
    unfold edgeB at h1
    split at h1
    · rename_i o ho
      obtain ⟨x, hx, h2⟩ := Array.any_eq_true.1 h1
      have he := Array.getElem_mem hx
      generalize o.after[x] = e at *
      rw [Bool.and_eq_true, beq_iff_eq] at h2
      have h3 := hk o ho e he h2.1
      rw [h2.2] at h3
      exact path_gone hs i r j (fun o' ho' => hs j o' ho' h3) h.2
    · cases h1

/-- Who waits for an operation that has not come up is not ready. -/
theorem waits {i k : Nat} {gone : Array Bool} {o : Oper} (hi : i ∈ Region.ready md ops gone) (hk : k ∈ Region.ready md ops gone) (ho : ops[k]? = some o) :
    ∀ e ∈ o.after, Region.binds md e = true → e.on ≠ i := by
  obtain ⟨_, o', ho', hall⟩ := mem_ready.1 hk
  have e1 : o' = o := by rw [ho] at ho'; exact (Option.some.inj ho').symm
  subst e1
  intro e he hb hon
  have h1 := hall e he hb
  have h0 := (mem_ready.1 hi).1
  rw [hon] at h1
  by_cases hlt : i < gone.size
  · simp [hlt] at h0 h1; rw [h0] at h1; cases h1
  · simp [Array.getElem?_eq_none (Nat.le_of_not_lt hlt)] at h1
theorem not_last {i : Nat} {gone : Array Bool} {p : List Nat} (hs : Shutd md ops gone) (hp : pathB md ops z (p ++ [i]) = true) (hi : i ∈ Region.ready md ops gone) {k : Nat} (hk : k ∈ Region.ready md ops gone) : k ≠ z := by
  rintro rfl
  obtain ⟨_, o', ho', hall⟩ := mem_ready.1 hk
  have h1 := path_gone hs i p k (fun o ho => by rw [ho'] at ho; cases ho; exact hall) hp
  have h0 := (mem_ready.1 hi).1
  by_cases hlt : i < gone.size
  · simp [hlt] at h0 h1; rw [h0] at h1; cases h1
  · simp [Array.getElem?_eq_none (Nat.le_of_not_lt hlt)] at h1

theorem ButLast.first {i : Nat} {oi : Oper} {v : Value} {p : List Nat} (hi : ops[i]? = some oi) (hsel : ∀ (k : Nat) (o : Oper) cs b, ops[k]? = some o → o.op ≠ .select cs b)
    (hQ : ∀ c a w, Q (.panic c) (a.put oi.dst v) w → Q (.panic c) a w) (hp : pathB md ops z (p ++ [i]) = true) : ∀ (n : Nat) (gone : Array Bool) (a : Act) (w : World),
      (∀ k o, ops[k]? = some o → k ≠ i → gone.getD k true = false → (∀ e ∈ o.after, Region.binds md e = true → e.on ≠ i) → oi.apart ops o = true) →
      i ∈ Region.ready md ops gone → Shutd md ops gone → YieldsIf P ops S oi v a → S w →
      ButLast P md ops Q S z n (gone.setIfInBounds i true) (a.put oi.dst v) w → ButLast P md ops Q S z (n + 1) gone a w := by
  intro n
  induction n with
  | zero =>
    intro gone a w _ hr _ hy hS H
    refine ⟨fun h => absurd hr (by rw [h]; simp), fun k hk => ?_⟩
    by_cases e : k = i
    · subst e; exact hy.wpOp hi hS ⟨fun _ => hS, H⟩
    · exact absurd (ready_mono hk e) (by rw [H.1]; simp)
  | succ n ih =>
    intro gone a w hfree hr hs hy hS H
    refine ⟨fun h => absurd hr (by rw [h]; simp), fun k hk => ?_⟩
    by_cases e : k = i
    · subst e; exact hy.wpOp hi hS ⟨fun _ => hS, H⟩
    have hri : i ∈ Region.ready md ops (gone.setIfInBounds k true) := ready_mono hr (fun h => e h.symm)
    obtain ⟨hun, ok, hok, _⟩ := mem_ready.1 hk
    have hstep := wpOp_putIf hok (hfree k ok hok e hun (waits hr hk hok)) (fun cs b => hsel i oi cs b hi) (fun cs b => hsel k ok cs b hok) hQ hy (H.2 k (ready_mono hk e))
    refine wpOp_mono ?_ hstep
    rintro a' w' ⟨hy', hS', hH⟩
    rw [show (gone.setIfInBounds i true).setIfInBounds k true = (gone.setIfInBounds k true).setIfInBounds i true from Array.setIfInBounds_comm _ _ (fun h => e h.symm)] at hH
    have hSw := hS' (not_last hs hp hr hk)
    refine ⟨fun _ => hSw, ih _ a' w' ?_ hri (hs.next hk) hy' hSw hH⟩
    intro j o ho hji hju hno
    refine hfree j o ho hji ?_ hno
    by_cases hkj : k = j
    · subst hkj; exact hun
    · rwa [getD_set_ne true hkj] at hju

/-- Number i first; p: by whom z waits for it. -/
theorem ButLast.take (i : Nat) (v : Value) (p : List Nat) {oi : Oper} {n : Nat} {gone : Array Bool} {a : Act} {w : World} (hi : ops[i]? = some oi) (hs : Region.noSelect ops = true) (hf : Region.free md ops gone i = true) (hr : (Region.ready md ops gone).contains i = true) (hsh : shutB md ops gone = true) (hp : pathB md ops z (p ++ [i]) = true)
    (hQ : ∀ c a w, Q (.panic c) (a.put oi.dst v) w → Q (.panic c) a w) (hy : YieldsIf P ops S oi v a) (hS : S w)
    (h : ButLast P md ops Q S z n (gone.setIfInBounds i true) (a.put oi.dst v) w) : ButLast P md ops Q S z (n + 1) gone a w :=
  ButLast.first hi (Region.noSelect_spec hs) hQ hp n gone a w (Region.free_spec hi hf) (by simpa using hr) (shut_of hsh) hy hS h
/-- One alone may come up. -/
theorem ButLast.one (i : Nat) {o : Oper} {n : Nat} {gone : Array Bool} {a : Act} {w : World} (hr : Region.ready md ops gone = [i]) (ho : ops[i]? = some o)
    (h : ∀ K : Act → World → Prop, Shut (∀ b u, (i ≠ z → S u) → ButLast P md ops Q S z n (gone.setIfInBounds i true) b u → K b u) → if Region.wanted o (yielded ops a.tmps) = true then Oper.wp P o a w K Q else K (a.put o.dst undef) w) : ButLast P md ops Q S z (n + 1) gone a w := by
  refine ⟨fun h0 => absurd h0 (by rw [hr]; simp), fun k hk => ?_⟩
  rw [hr] at hk
  have e : k = i := by simpa using hk
  subst e
  exact wpOp_step ho fun K' hK => h K' fun b u h1 h2 => hK b u ⟨h1, h2⟩
theorem ButLast.done {n : Nat} {gone : Array Bool} {a : Act} {w : World} (hr : Region.ready md ops gone = []) (h : Q .normal a w) : ButLast P md ops Q S z n gone a w := by
  cases n with
  | zero => exact ⟨hr, h⟩
  | succ n => exact ⟨fun _ => h, by rw [hr]; simp⟩
/-- The beginning. -/
theorem region_last (S : World → Prop) (z : Nat) {id : Nat} {a : Act} {w : World} (hm : P.follows .mixedOrders = true) (h : ButLast P .any ops Q S z ops.size (Array.replicate ops.size false) a w.drew) : (Code.region id ops true).wp P Q a w :=
  wp_region_any hm h.any
end
/-- A call, as one step. -/
theorem step_go {ops : Array Oper} {o : Oper} {a : Act} {w : World} {K : Act → World → Prop} {Q : Exit → Act → World → Prop} {E : Prop} {R : Ending → World → Prop} (f : Nat) (xs : Array Operand) (ts : Array TypeId) (hg : o.guard = none)
    (ho : o.op = .call { callee := .value (.func f), args := xs, argTypes := ts }) (vs : Array Value) (hx : xs.map a.eval = vs) (hf : Sem.run Tryz.prog (callFunc f vs) w = .ok (.enter f vs) w) (hc : Calls Tryz.prog f vs w R) (hR : ∀ e w', R e w' → ∃ u, e = .returned u ∧ K (a.put o.dst u) w') :
    if Region.wanted o (yielded ops a.tmps) = true then Oper.wp Tryz.prog o a w K Q else E := by
  have hw : Region.wanted o (yielded ops a.tmps) = true := by simp [Region.wanted, hg]
  rw [if_pos hw]
  have he : (execOp a.eval o).run Tryz.prog w = .ok (.enter f vs) w := by
    subst hx
    simp [go_sem, execOp, ho, resolve, hf]
  unfold Oper.wp
  rw [he]
  refine hc.mono ?_
  intro e w' hr
  obtain ⟨u, rfl, hK⟩ := hR e w' hr
  exact hK
end Go.Proofs.YtcffomhcmilcpaaGreat
