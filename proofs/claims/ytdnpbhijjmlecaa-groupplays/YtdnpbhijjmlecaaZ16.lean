/- A region that draws its order: what is read there may be read first, also where the last operation of all writes what was read. -/
import Derived.Test.YtdnpbhijjmlecaaZ8
import Derived.Deep.RegionHeld3
import Derived.Deep.AppendLies
import Derived.Test.YtdnpbhijjmlecaaZ10
namespace Go.Proofs.Ytdnpbhijjmlecaa
open Go.RowKit Go.Maps
set_option linter.unusedSimpArgs false
set_option linter.unusedVariables false
section
variable {P : Program} {ops : Array Oper} {Q : Exit → Act → World → Prop} {md : Region.Mode} {S : World → Prop} {z : Nat}

/-- In whatever order: S holds behind each operation but number z. -/
def ButLast (P : Program) (md : Region.Mode) (ops : Array Oper) (Q : Exit → Act → World → Prop) (S : World → Prop) (z : Nat) : Nat → Array Bool → Act → World → Prop
  | 0, gone, a, w => Region.ready md ops gone = [] ∧ Q .normal a w
  | n + 1, gone, a, w => (Region.ready md ops gone = [] → Q .normal a w) ∧ ∀ k ∈ Region.ready md ops gone, wpOp P ops Q k (fun b u => (k ≠ z → S u) ∧ ButLast P md ops Q S z n (gone.setIfInBounds k true) b u) a w

theorem ButLast.any : ∀ {n : Nat} {gone : Array Bool} {a : Act} {w : World}, ButLast P md ops Q S z n gone a w → wpAny P md ops Q n gone a w
  | 0, _, _, _, h => h
  | _ + 1, _, _, _, h => ⟨h.1, fun k hk => wpOp_mono (fun _ _ hh => hh.2.any) (h.2 k hk)⟩

/-- Whose turn has come has had all that it waits for. -/
def Shutd (md : Region.Mode) (ops : Array Oper) (gone : Array Bool) : Prop := ∀ k o, ops[k]? = some o → gone.getD k false = true → ∀ e ∈ o.after, Region.binds md e = true → gone.getD e.on false = true
def shutB (md : Region.Mode) (ops : Array Oper) (gone : Array Bool) : Bool :=
  (List.range ops.size).all fun k => !(gone.getD k false) || match ops[k]? with | some o => o.after.all fun e => !(Region.binds md e) || gone.getD e.on false | none => true
theorem shut_of {gone : Array Bool} (h : shutB md ops gone = true) : Shutd md ops gone := by
  intro k o ho hk e he hb
  have hlt : k < ops.size := by
    rcases Nat.lt_or_ge k ops.size with h' | h'
    · exact h'
    · rw [Array.getElem?_eq_none h'] at ho; cases ho
  have h1 := List.all_eq_true.1 h k (List.mem_range.2 hlt)
  rw [hk, ho] at h1
  simp only [Bool.not_true, Bool.false_or] at h1
  have h2 := Array.all_eq_true_iff_forall_mem.1 h1 e he
  rw [hb] at h2
  simpa using h2
theorem Shutd.next {gone : Array Bool} {k : Nat} (h : Shutd md ops gone) (hk : k ∈ Region.ready md ops gone) : Shutd md ops (gone.setIfInBounds k true) := by
  intro j o ho hj e he hb
  obtain ⟨_, o', ho', hall⟩ := mem_ready.1 hk
  by_cases ejk : k = j
  · subst ejk
    have e1 : o' = o := by rw [ho] at ho'; exact (Option.some.inj ho').symm
    subst e1
    exact getD_set_true (hall e he hb)
  · rw [getD_set_ne false ejk] at hj
    exact getD_set_true (h j o ho hj e he hb)
def edgeB (md : Region.Mode) (ops : Array Oper) (k j : Nat) : Bool := match ops[k]? with | some o => o.after.any fun e => Region.binds md e && e.on == j | none => false
def pathB (md : Region.Mode) (ops : Array Oper) : Nat → List Nat → Bool
  | _, [] => true
  | k, j :: r => edgeB md ops k j && pathB md ops j r
theorem path_gone {gone : Array Bool} (hs : Shutd md ops gone) (i : Nat) : ∀ (l : List Nat) (k : Nat), (∀ o, ops[k]? = some o → ∀ e ∈ o.after, Region.binds md e = true → gone.getD e.on false = true) → pathB md ops k (l ++ [i]) = true → gone.getD i false = true
  | [], k, hk, h => by
    simp only [List.nil_append, pathB, Bool.and_true] at h
    unfold edgeB at h
    split at h
    · rename_i o ho
      obtain ⟨x, hx, h2⟩ := Array.any_eq_true.1 h
      have he := Array.getElem_mem hx
      generalize o.after[x] = e at *
      rw [Bool.and_eq_true, beq_iff_eq] at h2
      have := hk o ho e he h2.1
      rwa [h2.2] at this
    · cases h
  | j :: r, k, hk, h => by
    simp only [List.cons_append, pathB, Bool.and_eq_true] at h
    have h1 := h.1
    unfold edgeB at h1
    split at h1
    · rename_i o ho
      obtain ⟨x, hx, h2⟩ := Array.any_eq_true.1 h1
      have he := Array.getElem_mem hx
      generalize o.after[x] = e at *
      rw [Bool.and_eq_true, beq_iff_eq] at h2
      have h3 := hk o ho e he h2.1
      rw [h2.2] at h3
      exact path_gone hs i r j (fun o' ho' => hs j o' ho' h3) h.2
    · cases h1

/-- Who waits for an operation that has not come up is not ready. -/
theorem waits {i k : Nat} {gone : Array Bool} {o : Oper} (hi : i ∈ Region.ready md ops gone) (hk : k ∈ Region.ready md ops gone) (ho : ops[k]? = some o) :
    ∀ e ∈ o.after, Region.binds md e = true → e.on ≠ i := by
  obtain ⟨_, o', ho', hall⟩ := mem_ready.1 hk
  have e1 : o' = o := by rw [ho] at ho'; exact (Option.some.inj ho').symm
  subst e1
  intro e he hb hon
  have h1 := hall e he hb
  have h0 := (mem_ready.1 hi).1
  rw [hon] at h1
  by_cases hlt : i < gone.size
  · simp [hlt] at h0 h1; rw [h0] at h1; cases h1
  · simp [Array.getElem?_eq_none (Nat.le_of_not_lt hlt)] at h1
theorem not_last {i : Nat} {gone : Array Bool} {p : List Nat} (hs : Shutd md ops gone) (hp : pathB md ops z (p ++ [i]) = true) (hi : i ∈ Region.ready md ops gone) {k : Nat} (hk : k ∈ Region.ready md ops gone) : k ≠ z := by
  rintro rfl
  obtain ⟨_, o', ho', hall⟩ := mem_ready.1 hk
  have h1 := path_gone hs i p k (fun o ho => by rw [ho'] at ho; cases ho; exact hall) hp
  have h0 := (mem_ready.1 hi).1
  by_cases hlt : i < gone.size
  · simp [hlt] at h0 h1; rw [h0] at h1; cases h1
  · simp [Array.getElem?_eq_none (Nat.le_of_not_lt hlt)] at h1

theorem ButLast.first {i : Nat} {oi : Oper} {v : Value} {p : List Nat} (hi : ops[i]? = some oi) (hsel : ∀ (k : Nat) (o : Oper) cs b, ops[k]? = some o → o.op ≠ .select cs b)
    (hQ : ∀ c a w, Q (.panic c) (a.put oi.dst v) w → Q (.panic c) a w) (hp : pathB md ops z (p ++ [i]) = true) : ∀ (n : Nat) (gone : Array Bool) (a : Act) (w : World),
      (∀ k o, ops[k]? = some o → k ≠ i → gone.getD k true = false → (∀ e ∈ o.after, Region.binds md e = true → e.on ≠ i) → oi.apart ops o = true) →
      i ∈ Region.ready md ops gone → Shutd md ops gone → YieldsIf P ops S oi v a → S w →
      ButLast P md ops Q S z n (gone.setIfInBounds i true) (a.put oi.dst v) w → ButLast P md ops Q S z (n + 1) gone a w := by
  intro n
  induction n with
  | zero =>
    intro gone a w _ hr _ hy hS H
    refine ⟨fun h => absurd hr (by rw [h]; simp), fun k hk => ?_⟩
    by_cases e : k = i
    · subst e; exact hy.wpOp hi hS ⟨fun _ => hS, H⟩
    · exact absurd (ready_mono hk e) (by rw [H.1]; simp)
  | succ n ih =>
    intro gone a w hfree hr hs hy hS H
    refine ⟨fun h => absurd hr (by rw [h]; simp), fun k hk => ?_⟩
    by_cases e : k = i
    · subst e; exact hy.wpOp hi hS ⟨fun _ => hS, H⟩
    have hri : i ∈ Region.ready md ops (gone.setIfInBounds k true) := ready_mono hr (fun h => e h.symm)
    obtain ⟨hun, ok, hok, _⟩ := mem_ready.1 hk
    have hstep := wpOp_putIf hok (hfree k ok hok e hun (waits hr hk hok)) (fun cs b => hsel i oi cs b hi) (fun cs b => hsel k ok cs b hok) hQ hy (H.2 k (ready_mono hk e))
    refine wpOp_mono ?_ hstep
    rintro a' w' ⟨hy', hS', hH⟩
    rw [show (gone.setIfInBounds i true).setIfInBounds k true = (gone.setIfInBounds k true).setIfInBounds i true from Array.setIfInBounds_comm _ _ (fun h => e h.symm)] at hH
    have hSw := hS' (not_last hs hp hr hk)
    refine ⟨fun _ => hSw, ih _ a' w' ?_ hri (hs.next hk) hy' hSw hH⟩
    intro j o ho hji hju hno
    refine hfree j o ho hji ?_ hno
    by_cases hkj : k = j
    · subst hkj; exact hun
    · rwa [getD_set_ne true hkj] at hju

/-- Number i first; p: by whom z waits for it. -/
theorem ButLast.take (i : Nat) (v : Value) (p : List Nat) {oi : Oper} {n : Nat} {gone : Array Bool} {a : Act} {w : World} (hi : ops[i]? = some oi) (hs : Region.noSelect ops = true) (hf : Region.free md ops gone i = true) (hr : (Region.ready md ops gone).contains i = true) (hsh : shutB md ops gone = true) (hp : pathB md ops z (p ++ [i]) = true)
    (hQ : ∀ c a w, Q (.panic c) (a.put oi.dst v) w → Q (.panic c) a w) (hy : YieldsIf P ops S oi v a) (hS : S w)
    (h : ButLast P md ops Q S z n (gone.setIfInBounds i true) (a.put oi.dst v) w) : ButLast P md ops Q S z (n + 1) gone a w :=
  ButLast.first hi (Region.noSelect_spec hs) hQ hp n gone a w (Region.free_spec hi hf) (by simpa using hr) (shut_of hsh) hy hS h
/-- One alone may come up. -/
theorem ButLast.one (i : Nat) {o : Oper} {n : Nat} {gone : Array Bool} {a : Act} {w : World} (hr : Region.ready md ops gone = [i]) (ho : ops[i]? = some o)
    (h : ∀ K : Act → World → Prop, Shut (∀ b u, (i ≠ z → S u) → ButLast P md ops Q S z n (gone.setIfInBounds i true) b u → K b u) → if Region.wanted o (yielded ops a.tmps) = true then Oper.wp P o a w K Q else K (a.put o.dst undef) w) : ButLast P md ops Q S z (n + 1) gone a w := by
  refine ⟨fun h0 => absurd h0 (by rw [hr]; simp), fun k hk => ?_⟩
  rw [hr] at hk
  have e : k = i := by simpa using hk
  subst e
  exact wpOp_step ho fun K' hK => h K' fun b u h1 h2 => hK b u ⟨h1, h2⟩
theorem ButLast.done {n : Nat} {gone : Array Bool} {a : Act} {w : World} (hr : Region.ready md ops gone = []) (h : Q .normal a w) : ButLast P md ops Q S z n gone a w := by
  cases n with
  | zero => exact ⟨hr, h⟩
  | succ n => exact ⟨fun _ => h, by rw [hr]; simp⟩
/-- The beginning. -/
theorem region_last (S : World → Prop) (z : Nat) {id : Nat} {a : Act} {w : World} (hm : P.follows .mixedOrders = true) (h : ButLast P .any ops Q S z ops.size (Array.replicate ops.size false) a w.drew) : (Code.region id ops true).wp P Q a w :=
  wp_region_any hm h.any
end
/-- A call, as one step. -/
theorem step_go {ops : Array Oper} {o : Oper} {a : Act} {w : World} {K : Act → World → Prop} {Q : Exit → Act → World → Prop} {E : Prop} {R : Ending → World → Prop} (f : Nat) (xs : Array Operand) (ts : Array TypeId) (hg : o.guard = none)
    (ho : o.op = .call { callee := .value (.func f), args := xs, argTypes := ts }) (vs : Array Value) (hx : xs.map a.eval = vs) (hf : Sem.run Try.prog (callFunc f vs) w = .ok (.enter f vs) w) (hc : Calls Try.prog f vs w R) (hR : ∀ e w', R e w' → ∃ u, e = .returned u ∧ K (a.put o.dst u) w') :
    if Region.wanted o (yielded ops a.tmps) = true then Oper.wp Try.prog o a w K Q else E := by
  have hw : Region.wanted o (yielded ops a.tmps) = true := by simp [Region.wanted, hg]
  rw [if_pos hw]
  have he : (execOp a.eval o).run Try.prog w = .ok (.enter f vs) w := by
    subst hx
    simp [go_sem, execOp, ho, resolve, hf]
  unfold Oper.wp
  rw [he]
  refine hc.mono ?_
  intro e w' hr
  obtain ⟨u, rfl, hK⟩ := hR e w' hr
  exact hK
end Go.Proofs.Ytdnpbhijjmlecaa

/- Steps of regions that draw their order. -/
namespace Go.Proofs.Ytdnpbhijjmlecaa
open Go.RowKit Go.Maps
set_option maxRecDepth 100000
set_option linter.unusedSimpArgs false
set_option linter.unusedVariables false
theorem put_eval (a : Act) (d x : Nat) (v : Value) : (a.put (some d) v).eval (.tmp x) = if d = x ∧ d < a.tmps.size then v else a.eval (.tmp x) := by
  simp only [Act.eval, Act.put, Array.getElem?_setIfInBounds]
  by_cases h : d = x
  · subst h
    by_cases h2 : d < a.tmps.size
    · simp [h2]
    · simp [h2]
  · simp [h]
theorem put_size (a : Act) (d : Nat) (v : Value) : (a.put (some d) v).tmps.size = a.tmps.size := by simp [Act.put]
theorem yields_move {ops : Array Oper} {o : Oper} {a : Act} {S : World → Prop} {v : Value} (hg : o.guard = none) (x : Nat) (ho : o.op = .move (.tmp x)) (hx : a.eval (.tmp x) = v) : YieldsIf Try.prog ops S o v a := by
  refine .inl ⟨by simp [Region.wanted, hg], fun w _ => ?_⟩
  unfold execOp
  rw [ho]
  subst hx
  simp [go_sem]
theorem yields_nil {ops : Array Oper} {o : Oper} {a : Act} {S : World → Prop} (hg : o.guard = none) (x r : Nat) (ho : o.op = .nilCheck (.tmp x)) (hx : a.eval (.tmp x) = .pointer (some ⟨r, 0, none⟩)) : YieldsIf Try.prog ops S o (.pointer (some ⟨r, 0, none⟩)) a := by
  refine .inl ⟨by simp [Region.wanted, hg], fun w _ => ?_⟩
  unfold execOp
  rw [ho]
  have hx' : a.tmps[x]?.getD undef = .pointer (some ⟨r, 0, none⟩) := by simpa [Act.eval] using hx
  go_simp
theorem yields_field61_6 {ops : Array Oper} {o : Oper} {a : Act} {S : World → Prop} (hg : o.guard = none) (x r : Nat) (ho : o.op = .fieldAddr 61 (.tmp x) 6) (hx : a.eval (.tmp x) = .pointer (some ⟨r, 0, none⟩)) : YieldsIf Try.prog ops S o (.pointer (some ⟨r, 6, none⟩)) a := by
  refine .inl ⟨by simp [Region.wanted, hg], fun w _ => ?_⟩
  unfold execOp
  rw [ho]
  have hx' : a.tmps[x]?.getD undef = .pointer (some ⟨r, 0, none⟩) := by simpa [Act.eval] using hx
  go_simp
theorem yields_field32_1 {ops : Array Oper} {o : Oper} {a : Act} {S : World → Prop} (hg : o.guard = none) (x r : Nat) (ho : o.op = .fieldAddr 32 (.tmp x) 1) (hx : a.eval (.tmp x) = .pointer (some ⟨r, 0, none⟩)) : YieldsIf Try.prog ops S o (.pointer (some ⟨r, 1, none⟩)) a := by
  refine .inl ⟨by simp [Region.wanted, hg], fun w _ => ?_⟩
  unfold execOp
  rw [ho]
  have hx' : a.tmps[x]?.getD undef = .pointer (some ⟨r, 0, none⟩) := by simpa [Act.eval] using hx
  go_simp
theorem yields_field32_7 {ops : Array Oper} {o : Oper} {a : Act} {S : World → Prop} (hg : o.guard = none) (x r : Nat) (ho : o.op = .fieldAddr 32 (.tmp x) 7) (hx : a.eval (.tmp x) = .pointer (some ⟨r, 0, none⟩)) : YieldsIf Try.prog ops S o (.pointer (some ⟨r, 7, none⟩)) a := by
  refine .inl ⟨by simp [Region.wanted, hg], fun w _ => ?_⟩
  unfold execOp
  rw [ho]
  have hx' : a.tmps[x]?.getD undef = .pointer (some ⟨r, 0, none⟩) := by simpa [Act.eval] using hx
  go_simp
theorem yields_load3 {ops : Array Oper} {o : Oper} {a : Act} {S : World → Prop} (hg : o.guard = none) (x r f : Nat) (ho : o.op = .load 3 (.tmp x)) (hx : a.eval (.tmp x) = .pointer (some ⟨r, f, none⟩)) (v : Value) (hS : ∀ w, S w → w.cell? ⟨r, f, none⟩ = some v) : YieldsIf Try.prog ops S o v a := by
  refine .inl ⟨by simp [Region.wanted, hg], fun w hw => ?_⟩
  unfold execOp
  rw [ho]
  have hx' : a.tmps[x]?.getD undef = .pointer (some ⟨r, f, none⟩) := by simpa [Act.eval] using hx
  have hc := hS w hw
  go_simp
theorem yields_load30 {ops : Array Oper} {o : Oper} {a : Act} {S : World → Prop} (hg : o.guard = none) (x r f : Nat) (ho : o.op = .load 30 (.tmp x)) (hx : a.eval (.tmp x) = .pointer (some ⟨r, f, none⟩)) (v : Value) (hS : ∀ w, S w → w.cell? ⟨r, f, none⟩ = some v) : YieldsIf Try.prog ops S o v a := by
  refine .inl ⟨by simp [Region.wanted, hg], fun w hw => ?_⟩
  unfold execOp
  rw [ho]
  have hx' : a.tmps[x]?.getD undef = .pointer (some ⟨r, f, none⟩) := by simpa [Act.eval] using hx
  have hc := hS w hw
  go_simp
theorem yields_load59 {ops : Array Oper} {o : Oper} {a : Act} {S : World → Prop} (hg : o.guard = none) (x r f : Nat) (ho : o.op = .load 59 (.tmp x)) (hx : a.eval (.tmp x) = .pointer (some ⟨r, f, none⟩)) (v : Value) (hS : ∀ w, S w → w.cell? ⟨r, f, none⟩ = some v) : YieldsIf Try.prog ops S o v a := by
  refine .inl ⟨by simp [Region.wanted, hg], fun w hw => ?_⟩
  unfold execOp
  rw [ho]
  have hx' : a.tmps[x]?.getD undef = .pointer (some ⟨r, f, none⟩) := by simpa [Act.eval] using hx
  have hc := hS w hw
  go_simp
theorem yields_index30 {ops : Array Oper} {o : Oper} {a : Act} {S : World → Prop} (hg : o.guard = none) (x r f c : Nat) (ho : o.op = .indexAddr 30 (.tmp x) (.const (.int .i64 0))) (hx : a.eval (.tmp x) = .slice (some ⟨r, f, none⟩) 1 c) : YieldsIf Try.prog ops S o (.pointer (some ⟨r, f, none⟩)) a := by
  refine .inl ⟨by simp [Region.wanted, hg], fun w _ => ?_⟩
  unfold execOp
  rw [ho]
  have hx' : a.tmps[x]?.getD undef = .slice (some ⟨r, f, none⟩) 1 c := by simpa [Act.eval] using hx
  go_simp
theorem yields_build65 {ops : Array Oper} {o : Oper} {a : Act} {S : World → Prop} (hg : o.guard = none) (x y : Nat) (c0 c1 : Int) (ho : o.op = .build 65 #[(0, .tmp x), (1, .tmp y)]) (hx : a.eval (.tmp x) = .int .i64 c0) (hy : a.eval (.tmp y) = .int .i64 c1) : YieldsIf Try.prog ops S o (.agg #[.int .i64 c0, .int .i64 c1]) a := by
  refine .inl ⟨by simp [Region.wanted, hg], fun w _ => ?_⟩
  unfold execOp
  rw [ho]
  have hx' : a.tmps[x]?.getD undef = .int .i64 c0 := by simpa [Act.eval] using hx
  have hy' : a.tmps[y]?.getD undef = .int .i64 c1 := by simpa [Act.eval] using hy
  go_simp
set_option maxHeartbeats 1600000 in
theorem step_one59 {ops : Array Oper} {o : Oper} {a : Act} {w : World} {K : Act → World → Prop} {Q : Exit → Act → World → Prop} {E : Prop} (hg : o.guard = none) (x : Nat)
    (ho : o.op = .buildSlice 59 1 #[(0, .tmp x)]) (c1 c2 : Int) (hx : a.eval (.tmp x) = .agg #[.int .i64 c1, .int .i64 c2])
    (hK : K (a.put o.dst (.slice (some ⟨w.heap.size, 0, none⟩) 1 1)) (w.alloc (.cells #[.int .i64 c1, .int .i64 c2] 65))) :
    if Region.wanted o (yielded ops a.tmps) = true then Oper.wp Try.prog o a w K Q else E := by
  have hw : Region.wanted o (yielded ops a.tmps) = true := by simp [Region.wanted, hg]
  rw [if_pos hw]
  unfold Oper.wp execOp
  rw [ho]
  have hx' : a.tmps[x]?.getD undef = .agg #[.int .i64 c1, .int .i64 c2] := by simpa [Act.eval] using hx
  go_simp
  exact hK
theorem step_store59 {ops : Array Oper} {o : Oper} {a : Act} {w : World} {K : Act → World → Prop} {Q : Exit → Act → World → Prop} {E : Prop} (hg : o.guard = none) (x y : Nat)
    (ho : o.op = .store 59 (.tmp x) (.tmp y)) (r f g n c : Nat) (hx : a.eval (.tmp x) = .pointer (some ⟨r, f, none⟩)) (hy : a.eval (.tmp y) = .slice (some ⟨g, 0, none⟩) n c) (u : Value) (h1 : w.cell? ⟨r, f, none⟩ = some u) (h2 : w.frozen? ⟨r, f, none⟩ = false)
    (hK : K (a.put o.dst undef) (w.setCell ⟨r, f, none⟩ (.slice (some ⟨g, 0, none⟩) n c))) :
    if Region.wanted o (yielded ops a.tmps) = true then Oper.wp Try.prog o a w K Q else E := by
  have hw : Region.wanted o (yielded ops a.tmps) = true := by simp [Region.wanted, hg]
  rw [if_pos hw]
  unfold Oper.wp execOp
  rw [ho]
  have hx' : a.tmps[x]?.getD undef = .pointer (some ⟨r, f, none⟩) := by simpa [Act.eval] using hx
  have hy' : a.tmps[y]?.getD undef = .slice (some ⟨g, 0, none⟩) n c := by simpa [Act.eval] using hy
  go_simp
  exact hK
/-- One alone may come up: the last store. -/
theorem ButLast.store59 {md : Region.Mode} {ops : Array Oper} {Q : Exit → Act → World → Prop} {S : World → Prop} {z : Nat} (i : Nat) {o : Oper} {n : Nat} {gone : Array Bool} {a : Act} {w : World} (hr : Region.ready md ops gone = [i]) (ho : ops[i]? = some o) (hg : o.guard = none) (x y : Nat)
    (hop : o.op = .store 59 (.tmp x) (.tmp y)) (r f g m c : Nat) (hx : a.eval (.tmp x) = .pointer (some ⟨r, f, none⟩)) (hy : a.eval (.tmp y) = .slice (some ⟨g, 0, none⟩) m c) (u : Value) (h1 : w.cell? ⟨r, f, none⟩ = some u) (h2 : w.frozen? ⟨r, f, none⟩ = false)
    (hS : i ≠ z → S (w.setCell ⟨r, f, none⟩ (.slice (some ⟨g, 0, none⟩) m c))) (H : ButLast Try.prog md ops Q S z n (gone.setIfInBounds i true) (a.put o.dst undef) (w.setCell ⟨r, f, none⟩ (.slice (some ⟨g, 0, none⟩) m c))) : ButLast Try.prog md ops Q S z (n + 1) gone a w :=
  ButLast.one i hr ho (fun K hK => step_store59 hg x y hop r f g m c hx hy u h1 h2 (hK.out _ _ hS H))
end Go.Proofs.Ytdnpbhijjmlecaa

/- A number is noted: one region, over any frame. -/
namespace Go.Proofs.Ytdnpbhijjmlecaa
open Go.RowKit Go.Maps
set_option maxRecDepth 100000
set_option linter.unusedSimpArgs false
set_option linter.unusedVariables false
@[reducible] def n45x0 : Oper := { dst := some 234, op := Op.move (Operand.tmp 5), type := 57, pos := "ref.go:230", after := #[], guard := none }
@[reducible] def n45x1 : Oper := { dst := some 235, op := Op.move (Operand.tmp 5), type := 57, pos := "ref.go:230", after := #[], guard := none }
@[reducible] def n45x2 : Oper := { dst := some 236, op := Op.nilCheck (Operand.tmp 235), type := 0, pos := "ref.go:230", after := #[{ on := 1, ground := Ground.data }], guard := none }
@[reducible] def n45x3 : Oper := { dst := some 237, op := Op.fieldAddr 61 (Operand.tmp 236) 6, type := 0, pos := "ref.go:230", after := #[{ on := 2, ground := Ground.data }], guard := none }
@[reducible] def n45x4 : Oper := { dst := some 238, op := Op.load 59 (Operand.tmp 237), type := 59, pos := "ref.go:230", after := #[{ on := 3, ground := Ground.data }], guard := none }
@[reducible] def n45x5 : Oper := { dst := some 239, op := Op.fieldAddr 32 (Operand.tmp 3) 1, type := 0, pos := "ref.go:230", after := #[], guard := none }
@[reducible] def n45x6 : Oper := { dst := some 240, op := Op.load 3 (Operand.tmp 239), type := 3, pos := "ref.go:230", after := #[{ on := 5, ground := Ground.data }], guard := none }
@[reducible] def n45x7 : Oper := { dst := some 241, op := Op.fieldAddr 32 (Operand.tmp 3) 7, type := 0, pos := "ref.go:230", after := #[], guard := none }
@[reducible] def n45x8 : Oper := { dst := some 242, op := Op.load 30 (Operand.tmp 241), type := 30, pos := "ref.go:230", after := #[{ on := 7, ground := Ground.data }], guard := none }
@[reducible] def n45x9 : Oper := { dst := some 243, op := Op.indexAddr 30 (Operand.tmp 242) (Operand.const (Value.int IntKind.i64 0)), type := 0, pos := "ref.go:230", after := #[{ on := 8, ground := Ground.data }], guard := none }
@[reducible] def n45x10 : Oper := { dst := some 244, op := Op.load 3 (Operand.tmp 243), type := 3, pos := "ref.go:230", after := #[{ on := 9, ground := Ground.data }], guard := none }
@[reducible] def n45x11 : Oper := { dst := some 245, op := Op.build 65 #[(0, Operand.tmp 240), (1, Operand.tmp 244)], type := 65, pos := "ref.go:230", after := #[{ on := 6, ground := Ground.data }, { on := 10, ground := Ground.data }], guard := none }
@[reducible] def n45x12 : Oper := { dst := some 246, op := Op.buildSlice 59 1 #[(0, Operand.tmp 245)], type := 59, pos := "ref.go:230", after := #[{ on := 11, ground := Ground.data }], guard := none }
@[reducible] def n45x13 : Oper := { dst := some 247, op := Op.call ({ callee := Callee.builtin Builtin.append, args := #[Operand.tmp 238, Operand.tmp 246], argTypes := #[59, 59] }), type := 59, pos := "ref.go:230", after := #[{ on := 4, ground := Ground.data }, { on := 12, ground := Ground.data }], guard := none }
@[reducible] def n45x14 : Oper := { dst := some 248, op := Op.nilCheck (Operand.tmp 234), type := 0, pos := "ref.go:230", after := #[{ on := 0, ground := Ground.data }, { on := 0, ground := Ground.phase }, { on := 1, ground := Ground.phase }, { on := 2, ground := Ground.phase }, { on := 3, ground := Ground.phase }, { on := 4, ground := Ground.phase }, { on := 5, ground := Ground.phase }, { on := 6, ground := Ground.phase }, { on := 7, ground := Ground.phase }, { on := 8, ground := Ground.phase }, { on := 9, ground := Ground.phase }, { on := 10, ground := Ground.phase }, { on := 11, ground := Ground.phase }, { on := 12, ground := Ground.phase }, { on := 13, ground := Ground.phase }], guard := none }
@[reducible] def n45x15 : Oper := { dst := some 249, op := Op.fieldAddr 61 (Operand.tmp 248) 6, type := 0, pos := "ref.go:230", after := #[{ on := 14, ground := Ground.data }, { on := 0, ground := Ground.phase }, { on := 1, ground := Ground.phase }, { on := 2, ground := Ground.phase }, { on := 3, ground := Ground.phase }, { on := 4, ground := Ground.phase }, { on := 5, ground := Ground.phase }, { on := 6, ground := Ground.phase }, { on := 7, ground := Ground.phase }, { on := 8, ground := Ground.phase }, { on := 9, ground := Ground.phase }, { on := 10, ground := Ground.phase }, { on := 11, ground := Ground.phase }, { on := 12, ground := Ground.phase }, { on := 13, ground := Ground.phase }], guard := none }
@[reducible] def n45x16 : Oper := { dst := none, op := Op.store 59 (Operand.tmp 249) (Operand.tmp 247), type := 0, pos := "ref.go:230", after := #[{ on := 15, ground := Ground.data }, { on := 13, ground := Ground.data }, { on := 13, ground := Ground.chain }, { on := 0, ground := Ground.phase }, { on := 1, ground := Ground.phase }, { on := 2, ground := Ground.phase }, { on := 3, ground := Ground.phase }, { on := 4, ground := Ground.phase }, { on := 5, ground := Ground.phase }, { on := 6, ground := Ground.phase }, { on := 7, ground := Ground.phase }, { on := 8, ground := Ground.phase }, { on := 9, ground := Ground.phase }, { on := 10, ground := Ground.phase }, { on := 11, ground := Ground.phase }, { on := 12, ground := Ground.phase }, { on := 13, ground := Ground.phase }], guard := none }
@[reducible] def ns45 : Array Oper := #[n45x0, n45x1, n45x2, n45x3, n45x4, n45x5, n45x6, n45x7, n45x8, n45x9, n45x10, n45x11, n45x12, n45x13, n45x14, n45x15, n45x16]
theorem info65 : ∃ i, Try.prog.info? 65 = some i ∧ i.zero = some (.agg #[.int .i64 0, .int .i64 0]) ∧ i.size = 2 ∧ i.bytes = 16 := ⟨_, rfl, rfl, rfl, rfl⟩
/-- The cells that the region reads. -/
def R45 (V : World) (b q lb lo : Nat) (cs : Array Value) (ma y : Int) (lc : Nat) : Prop := V.heap[b]? = some (.cells cs 61) ∧ V.cell? ⟨q, 1, none⟩ = some (.int .i64 ma) ∧ V.cell? ⟨q, 7, none⟩ = some (.slice (some ⟨lb, lo, none⟩) 1 lc) ∧ V.cell? ⟨lb, lo, none⟩ = some (.int .i64 y)
theorem R45.kept {V W : World} {b q lb lo : Nat} {cs : Array Value} {ma y : Int} {lc : Nat} (h : R45 V b q lb lo cs ma y lc) (hk : ∀ k, k = b ∨ k = q ∨ k = lb → W.heap[k]? = V.heap[k]?) : R45 W b q lb lo cs ma y lc :=
  ⟨(hk b (.inl rfl)).trans h.1, (World.cell?_of_block (a := ⟨q, 1, none⟩) (hk q (.inr (.inl rfl)))).trans h.2.1, (World.cell?_of_block (a := ⟨q, 7, none⟩) (hk q (.inr (.inl rfl)))).trans h.2.2.1, (World.cell?_of_block (a := ⟨lb, lo, none⟩) (hk lb (.inr (.inr rfl)))).trans h.2.2.2⟩
set_option maxHeartbeats 8000000 in
theorem region45 {Q : Exit → Act → World → Prop} (a : Act) {W : World} {b q lb lo lc : Nat} {n : ByteArray} {vm vp vo : Value} {oa : Option Addr} {cap : Nat} {d : Dg} (ma y : Int) (hR : R45 W b q lb lo #[.string n, .int .i64 d.gen, .int .i64 d.ever, vm, vp, vo, .slice oa d.nums.length cap] ma y lc)
    (hrow : W.ownsRow 0 65 2 (.slice oa d.nums.length cap) d.nums.length (flatM d.nums)) (hlen : d.nums.length ≤ 100000) (hbl : b < W.heap.size) (hql : q < W.heap.size) (hll : lb < W.heap.size)
    (hvb : (Value.slice oa d.nums.length cap).ownBlock ≠ some b) (hvq : (Value.slice oa d.nums.length cap).ownBlock ≠ some q) (hvl : (Value.slice oa d.nums.length cap).ownBlock ≠ some lb)
    (h3 : a.eval (.tmp 3) = .pointer (some ⟨q, 0, none⟩)) (h5 : a.eval (.tmp 5) = .pointer (some ⟨b, 0, none⟩)) (hsz : a.tmps.size = 259)
    (hQ : ∀ (g c : Nat) (W3 W4 : World), W3.ownsRow 0 65 2 (.slice (some ⟨g, 0, none⟩) (d.nums.length + 1) c) (d.nums.length + 1) (flatM (d.nums ++ [⟨ma, y⟩])) → ((Value.slice oa d.nums.length cap).ownBlock = some g ∨ W.heap.size ≤ g) → Keeps (fun k => (Value.slice oa d.nums.length cap).ownBlock = some k) W W3 → R45 W3 b q lb lo #[.string n, .int .i64 d.gen, .int .i64 d.ever, vm, vp, vo, .slice oa d.nums.length cap] ma y lc → W4 = W3.setCell ⟨b, 6, none⟩ (.slice (some ⟨g, 0, none⟩) (d.nums.length + 1) c) → Q .normal (((((((((((((((((a.put (some 234) (.pointer (some ⟨b, 0, none⟩))).put (some 235) (.pointer (some ⟨b, 0, none⟩))).put (some 236) (.pointer (some ⟨b, 0, none⟩))).put (some 237) (.pointer (some ⟨b, 6, none⟩))).put (some 238) (.slice oa d.nums.length cap)).put (some 239) (.pointer (some ⟨q, 1, none⟩))).put (some 240) (.int .i64 ma)).put (some 241) (.pointer (some ⟨q, 7, none⟩))).put (some 242) (.slice (some ⟨lb, lo, none⟩) 1 lc)).put (some 243) (.pointer (some ⟨lb, lo, none⟩))).put (some 244) (.int .i64 y)).put (some 245) (.agg #[.int .i64 ma, .int .i64 y])).put (some 246) (.slice (some ⟨W.heap.size, 0, none⟩) 1 1)).put (some 247) (.slice (some ⟨g, 0, none⟩) (d.nums.length + 1) c)).put (some 248) (.pointer (some ⟨b, 0, none⟩))).put (some 249) (.pointer (some ⟨b, 6, none⟩))).put none undef) W4) :
    (Code.region 45 ns45 true).wp Try.prog Q a W := by
  obtain ⟨j0, hj0, hz0, hz1, hz2⟩ := info65
  have hbA : Below W.heap.size W ((W.alloc (.cells #[.int .i64 ma, .int .i64 y] 65)).drew) := ((Below.refl _ _).alloc (Nat.le_refl _) _).drew
  have HROW : ((W.alloc (.cells #[.int .i64 ma, .int .i64 y] 65)).drew).ownsRow 0 65 2 (.slice oa d.nums.length cap) d.nums.length (flatM d.nums) := row_kept hrow (fun k hk => hbA.block k (row_lt hrow hk))
  have HNEW : ∀ j u, ([.int .i64 ma, .int .i64 y] : List Value)[j]? = some u → ((W.alloc (.cells #[.int .i64 ma, .int .i64 y] 65)).drew).cell? ((⟨W.heap.size, 0, none⟩ : Addr).add j) = some u := fun j u hu => by
    rw [add_at, Nat.zero_add]
    refine cell_blk (w := (W.alloc (.cells #[.int .i64 ma, .int .i64 y] 65)).drew) (heap_alloc_new W (.cells #[.int .i64 ma, .int .i64 y] 65)) j u ?_
    rw [← hu]
    simp
  have HONE : ∀ u ∈ ([.int .i64 ma, .int .i64 y] : List Value), u.oneCell' = true := fun u hu => by
    simp at hu
    rcases hu with rfl | rfl <;> rfl
  have HSZ : ((W.alloc (.cells #[.int .i64 ma, .int .i64 y] 65)).drew).heap.size = W.heap.size + 1 := by simp
  have HG : ∀ (w5 : World) (g c : Nat), w5.ownsRow 0 65 2 (.slice (some ⟨g, 0, none⟩) (d.nums.length + 1) c) (d.nums.length + 1) (flatM d.nums ++ [.int .i64 ma, .int .i64 y]) → ((W.alloc (.cells #[.int .i64 ma, .int .i64 y] 65)).drew).grownBy w5 (Value.slice oa d.nums.length cap).ownBlock → ((Value.slice oa d.nums.length cap).ownBlock = some g ∨ g = W.heap.size + 1) →
      w5.ownsRow 0 65 2 (.slice (some ⟨g, 0, none⟩) (d.nums.length + 1) c) (d.nums.length + 1) (flatM (d.nums ++ [⟨ma, y⟩])) ∧ R45 w5 b q lb lo #[.string n, .int .i64 d.gen, .int .i64 d.ever, vm, vp, vo, .slice oa d.nums.length cap] ma y lc ∧ Keeps (fun k => (Value.slice oa d.nums.length cap).ownBlock = some k) W w5 := fun w5 g c hown hg hat => by
    have hk : Keeps (fun k => (Value.slice oa d.nums.length cap).ownBlock = some k) W w5 := (Keeps.of_below (S := fun k => (Value.slice oa d.nums.length cap).ownBlock = some k) hbA).trans (Keeps.of_grown (S := fun k => (Value.slice oa d.nums.length cap).ownBlock = some k) hg (fun k hk => hk)) (fun x hx => .inl hx)
    refine ⟨by rw [flatM_append]; exact hown, hR.kept (fun k hk' => ?_), hk⟩
    rcases hk' with rfl | rfl | rfl
    · exact hk.block _ hbl hvb
    · exact hk.block _ hql hvq
    · exact hk.block _ hll hvl
  have HS0 : R45 W.drew b q lb lo #[.string n, .int .i64 d.gen, .int .i64 d.ever, vm, vp, vo, .slice oa d.nums.length cap] ma y lc := hR
  have HDD : W.drew.alloc (.cells #[.int .i64 ma, .int .i64 y] 65) = (W.alloc (.cells #[.int .i64 ma, .int .i64 y] 65)).drew := rfl
  have HS1 : R45 (W.drew.alloc (.cells #[.int .i64 ma, .int .i64 y] 65)) b q lb lo #[.string n, .int .i64 d.gen, .int .i64 d.ever, vm, vp, vo, .slice oa d.nums.length cap] ma y lc := by
    rw [HDD]
    refine hR.kept (fun k hk' => ?_)
    rcases hk' with rfl | rfl | rfl
    · exact hbA.block _ hbl
    · exact hbA.block _ hql
    · exact hbA.block _ hll
  clear hR hbA hrow
  generalize hFM : flatM d.nums = FM at *
  refine wp_region_noPanic ?_
  refine region_last (fun V => R45 V b q lb lo #[.string n, .int .i64 d.gen, .int .i64 d.ever, vm, vp, vo, .slice oa d.nums.length cap] ma y lc) 16 (by kernel_rfl) ?_
  refine ButLast.take (oi := n45x0) 0 (.pointer (some ⟨b, 0, none⟩)) [15, 14] (by rfl) (by kernel_rfl) (by kernel_rfl) (by kernel_rfl) (by kernel_rfl) (by kernel_rfl) (fun c a w h => h) (yields_move (by rfl) 5 (by rfl) h5) HS0 ?_
  refine ButLast.take (oi := n45x1) 1 (.pointer (some ⟨b, 0, none⟩)) [13, 4, 3, 2] (by rfl) (by kernel_rfl) (by kernel_rfl) (by kernel_rfl) (by kernel_rfl) (by kernel_rfl) (fun c a w h => h) (yields_move (by rfl) 5 (by rfl) (by simp [put_eval, put_size, hsz, h3, h5])) HS0 ?_
  refine ButLast.take (oi := n45x2) 2 (.pointer (some ⟨b, 0, none⟩)) [13, 4, 3] (by rfl) (by kernel_rfl) (by kernel_rfl) (by kernel_rfl) (by kernel_rfl) (by kernel_rfl) (fun c a w h => h) (yields_nil (by rfl) 235 b (by rfl) (by simp [put_eval, put_size, hsz, h3, h5])) HS0 ?_
  refine ButLast.take (oi := n45x3) 3 (.pointer (some ⟨b, 6, none⟩)) [13, 4] (by rfl) (by kernel_rfl) (by kernel_rfl) (by kernel_rfl) (by kernel_rfl) (by kernel_rfl) (fun c a w h => h) (yields_field61_6 (by rfl) 236 b (by rfl) (by simp [put_eval, put_size, hsz, h3, h5])) HS0 ?_
  refine ButLast.take (oi := n45x4) 4 (.slice oa d.nums.length cap) [13] (by rfl) (by kernel_rfl) (by kernel_rfl) (by kernel_rfl) (by kernel_rfl) (by kernel_rfl) (fun c a w h => h) (yields_load59 (by rfl) 237 b 6 (by rfl) (by simp [put_eval, put_size, hsz, h3, h5]) _ (fun V hV => cell_blk hV.1 6 _ rfl)) HS0 ?_
  refine ButLast.take (oi := n45x5) 5 (.pointer (some ⟨q, 1, none⟩)) [13, 12, 11, 6] (by rfl) (by kernel_rfl) (by kernel_rfl) (by kernel_rfl) (by kernel_rfl) (by kernel_rfl) (fun c a w h => h) (yields_field32_1 (by rfl) 3 q (by rfl) (by simp [put_eval, put_size, hsz, h3, h5])) HS0 ?_
  refine ButLast.take (oi := n45x6) 6 (.int .i64 ma) [13, 12, 11] (by rfl) (by kernel_rfl) (by kernel_rfl) (by kernel_rfl) (by kernel_rfl) (by kernel_rfl) (fun c a w h => h) (yields_load3 (by rfl) 239 q 1 (by rfl) (by simp [put_eval, put_size, hsz, h3, h5]) _ (fun V hV => hV.2.1)) HS0 ?_
  refine ButLast.take (oi := n45x7) 7 (.pointer (some ⟨q, 7, none⟩)) [13, 12, 11, 10, 9, 8] (by rfl) (by kernel_rfl) (by kernel_rfl) (by kernel_rfl) (by kernel_rfl) (by kernel_rfl) (fun c a w h => h) (yields_field32_7 (by rfl) 3 q (by rfl) (by simp [put_eval, put_size, hsz, h3, h5])) HS0 ?_
  refine ButLast.take (oi := n45x8) 8 (.slice (some ⟨lb, lo, none⟩) 1 lc) [13, 12, 11, 10, 9] (by rfl) (by kernel_rfl) (by kernel_rfl) (by kernel_rfl) (by kernel_rfl) (by kernel_rfl) (fun c a w h => h) (yields_load30 (by rfl) 241 q 7 (by rfl) (by simp [put_eval, put_size, hsz, h3, h5]) _ (fun V hV => hV.2.2.1)) HS0 ?_
  refine ButLast.take (oi := n45x9) 9 (.pointer (some ⟨lb, lo, none⟩)) [13, 12, 11, 10] (by rfl) (by kernel_rfl) (by kernel_rfl) (by kernel_rfl) (by kernel_rfl) (by kernel_rfl) (fun c a w h => h) (yields_index30 (by rfl) 242 lb lo lc (by rfl) (by simp [put_eval, put_size, hsz, h3, h5])) HS0 ?_
  refine ButLast.take (oi := n45x10) 10 (.int .i64 y) [13, 12, 11] (by rfl) (by kernel_rfl) (by kernel_rfl) (by kernel_rfl) (by kernel_rfl) (by kernel_rfl) (fun c a w h => h) (yields_load3 (by rfl) 243 lb lo (by rfl) (by simp [put_eval, put_size, hsz, h3, h5]) _ (fun V hV => hV.2.2.2)) HS0 ?_
  refine ButLast.take (oi := n45x11) 11 (.agg #[.int .i64 ma, .int .i64 y]) [13, 12] (by rfl) (by kernel_rfl) (by kernel_rfl) (by kernel_rfl) (by kernel_rfl) (by kernel_rfl) (fun c a w h => h) (yields_build65 (by rfl) 240 244 ma y (by rfl) (by simp [put_eval, put_size, hsz, h3, h5]) (by simp [put_eval, put_size, hsz, h3, h5])) HS0 ?_
  refine ButLast.one (o := n45x12) 12 (by kernel_rfl) (by rfl) (fun K hK => ?_)
  refine step_one59 (by rfl) 245 (by rfl) ma y (by simp [put_eval, put_size, hsz, h3, h5]) ?_
  refine hK.out _ _ (fun _ => HS1) ?_
  clear hK K
  rw [HDD]
  refine ButLast.one (o := n45x13) 13 (by kernel_rfl) (by rfl) (fun K hK => ?_)
  refine step_append_lies _ (by rfl) (.tmp 238) (.tmp 246) 59 (by rfl) 0 65 j0 _ 2 16 Try.underlying59 hj0 hz0 hz1 hz2 rfl (by decide) (.slice oa d.nums.length cap) d.nums.length FM (by simp [put_eval, put_size, hsz, h3, h5]) HROW ⟨W.heap.size, 0, none⟩ 1 1 [.int .i64 ma, .int .i64 y] (by simp [put_eval, put_size, hsz, h3, h5]) rfl HNEW HONE (by decide) (by unfold maxLen; omega) (by omega) (Nat.zero_le _) (W.heap.size + 1) HSZ ?_
  intro g c w5 hown5 hg5 hat5 hlt5
  obtain ⟨f1, f2, f3⟩ := HG w5 g c hown5 hg5 hat5
  refine hK.out _ _ (fun _ => f2) ?_
  clear hK K
  refine ButLast.take (oi := n45x14) 14 (.pointer (some ⟨b, 0, none⟩)) [15] (by rfl) (by kernel_rfl) (by kernel_rfl) (by kernel_rfl) (by kernel_rfl) (by kernel_rfl) (fun c a w h => h) (yields_nil (by rfl) 234 b (by rfl) (by simp [put_eval, put_size, hsz, h3, h5])) f2 ?_
  refine ButLast.take (oi := n45x15) 15 (.pointer (some ⟨b, 6, none⟩)) [] (by rfl) (by kernel_rfl) (by kernel_rfl) (by kernel_rfl) (by kernel_rfl) (by kernel_rfl) (fun c a w h => h) (yields_field61_6 (by rfl) 248 b (by rfl) (by simp [put_eval, put_size, hsz, h3, h5])) f2 ?_
  have u0 := cell_blk f2.1 6 _ rfl
  have u1 := frz_blk f2.1 6
  refine ButLast.store59 (o := n45x16) 16 (by kernel_rfl) (by rfl) (by rfl) 249 247 (by rfl) b 6 g (d.nums.length + 1) c (by simp [put_eval, put_size, hsz, h3, h5]) (by simp [put_eval, put_size, hsz, h3, h5]) (.slice oa d.nums.length cap) u0 u1 (fun h => absurd rfl h) (ButLast.done (by kernel_rfl) ?_)
  exact NoPanic.normal (hQ g c _ _ f1 (hat5.elim .inl (fun e => .inr (by omega))) f3 f2 rfl)
end Go.Proofs.Ytdnpbhijjmlecaa

