/- Whatever record comes, what is kept stays kept. -/
import Derived.Test.YtdnpbhijjmlecaaG24
namespace Go.Proofs.Ytdnpbhijjmlecaa
set_option linter.unusedSimpArgs false
set_option linter.unusedVariables false

theorem get_mem {gs : GL} {n : List UInt8} {x : Gr} (h : getG gs n = some x) : (n, x) ∈ gs := by
  unfold getG at h
  obtain ⟨p, hp, rfl⟩ := Option.map_eq_some_iff.1 h
  have h1 := List.mem_of_find?_eq_some hp
  have h2 := List.find?_some hp
  simp only [beq_iff_eq] at h2
  rw [← h2]; exact h1
theorem get_none {gs : GL} {n : List UInt8} (h : getG gs n = none) : ∀ p ∈ gs, p.1 ≠ n := by
  unfold getG at h
  simp only [Option.map_eq_none_iff] at h
  intro p hp
  have := List.find?_eq_none.1 h p hp
  simpa using this
theorem mem_insG (z p : List UInt8 × Gr) : ∀ gs : GL, p ∈ insG z gs ↔ p = z ∨ p ∈ gs
  | [] => by simp [insG]
  | y :: r => by
    unfold insG
    split
    · simp
    · simp only [List.mem_cons, mem_insG z p r]
      constructor
      · rintro (h | h | h) <;> simp [h]
      · rintro (h | h | h) <;> simp [h]
theorem len_insG (z : List UInt8 × Gr) : ∀ gs : GL, (insG z gs).length = gs.length + 1
  | [] => rfl
  | y :: r => by
    unfold insG
    split
    · rfl
    · simp [len_insG z r]
theorem get_insG (n k : List UInt8) (y : Gr) : ∀ gs : GL, (∀ p ∈ gs, p.1 ≠ n) → getG (insG (n, y) gs) k = if n = k then some y else getG gs k
  | [], _ => by
    unfold insG getG
    by_cases h : n = k
    · subst h; simp
    · have : (n == k) = false := by simpa using h
      simp [this, h]
  | p :: r, hn => by
    have ih := get_insG n k y r (fun p hp => hn p (List.mem_cons_of_mem _ hp))
    have hp := hn p (List.mem_cons_self ..)
    unfold insG
    split
    · by_cases h : n = k
      · subst h; unfold getG; simp
      · have : (n == k) = false := by simpa using h
        unfold getG
        simp [List.find?_cons, this, h]
    · unfold getG at ih ⊢
      simp only [List.find?_cons]
      cases hpk : p.1 == k with
      | true =>
        have : p.1 = k := by simpa using hpk
        have hnk : ¬ n = k := fun e => hp (this.trans e.symm)
        simp [hnk]
      | false => exact ih
theorem get_setG (n k : List UInt8) (y : Gr) : ∀ gs : GL, getG (setG gs n y) k = if n = k then (getG gs k).map (fun _ => y) else getG gs k
  | [] => by simp [setG, getG]
  | p :: r => by
    have ih := get_setG n k y r
    unfold setG getG at ih ⊢
    simp only [List.map_cons, List.find?_cons]
    by_cases hpn : p.1 = n
    · have : (p.1 == n) = true := by simpa using hpn
      simp only [this, if_true]
      by_cases h : n = k
      · subst h
        simp [this]
      · have h2 : (p.1 == k) = false := by rw [hpn]; simpa using h
        simp only [h2]
        exact ih
    · have : (p.1 == n) = false := by simpa using hpn
      simp only [this, Bool.false_eq_true, if_false]
      cases hpk : p.1 == k with
      | true =>
        have : p.1 = k := by simpa using hpk
        have hnk : ¬ n = k := fun e => hpn (this.trans e.symm)
        simp [hnk]
      | false => exact ih
theorem get_putG {gs : GL} {n : List UInt8} (y : Gr) (k : List UInt8) : getG (putG gs n y) k = if n = k then some y else getG gs k := by
  unfold putG
  cases hg : getG gs n with
  | some x =>
    simp only [Option.isSome_some, if_true]
    rw [get_setG]
    by_cases h : n = k
    · subst h; simp [hg]
    · simp [h]
  | none =>
    simp only [Option.isSome_none, Bool.false_eq_true, if_false]
    exact get_insG n k y gs (get_none hg)
theorem set_self {gs : GL} {n : List UInt8} {x : Gr} (hn : gs.Pairwise fun a b => a.1 ≠ b.1) (h : getG gs n = some x) : setG gs n x = gs := by
  unfold setG
  conv => rhs; rw [← List.map_id gs]
  apply List.map_congr_left
  intro p hp
  by_cases hpn : p.1 = n
  · have h1 : (p.1 == n) = true := by simpa using hpn
    have hm := get_mem h
    have : ∀ {L : GL}, L.Pairwise (fun a b => a.1 ≠ b.1) → p ∈ L → (n, x) ∈ L → p = (n, x) := by
      intro L
      induction L with
      | nil => intro _ h; cases h
      | cons z r ih =>
        intro hL h1 h2
        have hL' := List.pairwise_cons.1 hL
        rcases List.mem_cons.1 h1 with e1 | e1
        · rcases List.mem_cons.1 h2 with e2 | e2
          · rw [e1, e2]
          · exact absurd hpn (by rw [e1]; exact hL'.1 _ e2)
        · rcases List.mem_cons.1 h2 with e2 | e2
          · exact absurd hpn.symm (by rw [← e2] at hL'; exact hL'.1 _ e1)
          · exact ih hL'.2 e1 e2
    have e := this hn hp hm
    rw [h1]
    simp [e]
  · have h1 : (p.1 == n) = false := by simpa using hpn
    rw [h1]
    rfl
theorem set_names {gs : GL} {n : List UInt8} {x : Gr} (hn : gs.Pairwise fun a b => a.1 ≠ b.1) : (setG gs n x).Pairwise fun a b => a.1 ≠ b.1 := by
  unfold setG
  rw [List.pairwise_map]
  refine hn.imp fun {a b} hab => ?_
  split <;> split <;> exact hab
theorem mem_setG {gs : GL} {n : List UInt8} {x : Gr} {p : List UInt8 × Gr} (h : p ∈ setG gs n x) : (∃ d ∈ gs, p.1 = d.1 ∧ d.1 = n ∧ p.2 = x) ∨ p ∈ gs := by
  unfold setG at h
  obtain ⟨d, hd, rfl⟩ := List.mem_map.1 h
  by_cases hdn : (d.1 == n) = true
  · rw [if_pos hdn]
    exact .inl ⟨d, hd, rfl, by simpa using hdn, rfl⟩
  · rw [if_neg hdn]
    exact .inr hd
theorem insG_names {gs : GL} {n : List UInt8} {y : Gr} (hn : gs.Pairwise fun a b => a.1 ≠ b.1) (h : ∀ p ∈ gs, p.1 ≠ n) : (insG (n, y) gs).Pairwise fun a b => a.1 ≠ b.1 := by
  induction gs with
  | nil => simp [insG]
  | cons z r ih =>
    have hp' := List.pairwise_cons.1 hn
    unfold insG
    split
    · exact List.Pairwise.cons (fun p hp2 => (h p hp2).symm) hn
    · refine List.Pairwise.cons (fun p hp2 => ?_) (ih hp'.2 (fun p hp => h p (List.mem_cons_of_mem _ hp)))
      rcases (mem_insG _ _ _).1 hp2 with rfl | hp2
      · exact h z (List.mem_cons_self ..)
      · exact hp'.1 p hp2
theorem GsOk.mono {N M : Nat} {S : Gs} (h : GsOk N S) (hm : N ≤ M) : GsOk M S := ⟨h.names, h.few, fun p hp => ⟨(h.each p hp).1.mono hm, (h.each p hp).2⟩, h.epoch⟩
theorem GsOk.set {N : Nat} {S : Gs} (h : GsOk N S) {n : List UInt8} {y : Gr} (hy : GrOk N y) : GsOk N { S with gs := setG S.gs n y } := by
  refine ⟨set_names h.names, by simpa [setG] using h.few, fun p hp => ?_, h.epoch⟩
  rcases mem_setG hp with ⟨d, hd, e1, e2, e3⟩ | hp
  · rw [e1, e3]; exact ⟨hy, (h.each d hd).2⟩
  · exact h.each p hp
theorem GsOk.put {N : Nat} {S : Gs} (h : GsOk N S) {n : List UInt8} {y : Gr} (hy : GrOk N y) (hl : n.length ≤ 32) (hf : (getG S.gs n).isSome = true ∨ S.gs.length < 8) : GsOk N { S with gs := putG S.gs n y } := by
  unfold putG
  cases hg : getG S.gs n with
  | some x =>
    simp only [Option.isSome_some, if_true]
    exact h.set hy
  | none =>
    simp only [Option.isSome_none, Bool.false_eq_true, if_false]
    rw [hg] at hf
    have hf' : S.gs.length < 8 := by simpa using hf
    refine ⟨insG_names h.names (get_none hg), by rw [len_insG]; omega, fun p hp => ?_, h.epoch⟩
    rcases (mem_insG _ _ _).1 hp with rfl | hp
    · exact ⟨hy, hl⟩
    · exact h.each p hp
theorem joinG_ok {N : Nat} {x : Gr} (h : GrOk N x) (m : Rc) (hr : riseB 0 m.list = true) (hm : m.a = 0 → x.mem.length < 16) (he : x.ever < 1000000) : GrOk (N + 1) (joinG x m) := by
  have hg := h.gen
  have hev := h.ever
  unfold joinG joinX
  by_cases ha : m.a = 0
  · simp only [ha, if_true]
    refine ⟨?_, fun y hy => ?_, ?_, hr, h.keys, h.offs, by simp [admitG]; omega, by simp [admitG]; omega⟩
    · show (x.mem ++ [_]).Pairwise _
      rw [List.pairwise_append]
      refine ⟨h.rise, by simp, fun y hy z hz => ?_⟩
      obtain rfl := List.mem_singleton.1 hz
      have := h.mems y hy
      simp only
      omega
    · rcases List.mem_append.1 hy with hy | hy
      · have := h.mems y hy
        simp only [admitG]
        omega
      · obtain rfl := List.mem_singleton.1 hy
        simp only [admitG]
        omega
    · show (x.mem ++ [_]).length ≤ 16
      have := hm ha
      simp
      omega
  · simp only [ha, if_false]
    exact ⟨h.rise, h.mems, h.few, hr, h.keys, h.offs, by simp only; omega, h.ever⟩
theorem oneI_ok {N : Nat} {x : Gr} (h : GrOk N x) (m : Rc) : GrOk (N + 1) (oneI x m).1 := by
  have hg := h.gen
  unfold oneI
  split
  · unfold leaveI
    cases hp : placeN x.mem m.a with
    | none => exact h.mono (by omega)
    | some i =>
      have hsub : (x.mem.eraseIdx i).Sublist x.mem := List.eraseIdx_sublist ..
      exact ⟨h.rise.sublist hsub, fun y hy => h.mems y (hsub.subset hy), Nat.le_trans hsub.length_le h.few, h.parts, h.keys, h.offs, by simp only; omega, h.ever⟩
  · split
    · unfold commitI
      by_cases hc : comE x m ≠ 0
      · rw [if_pos hc]; exact h.mono (by omega)
      · rw [if_neg hc]
        obtain ⟨z1, zb, zd, ⟨n, hn, hn2, zz⟩, zo, zc1, zc2⟩ := comE_zero (m := m) h (by omega)
        have hb := h.mono (show N ≤ N + 1 by omega)
        unfold offB at zd hn2
        simp only [decide_eq_true_eq] at zd hn2
        have hmod : ∀ (l : List Mb) (i : Nat), (setNum l i (m.list.headD 0)).map (·.id) = l.map (·.id) := by
          intro l
          induction l with
          | nil => intro i; cases i <;> rfl
          | cons y r ih =>
            intro i
            cases i with
            | zero => rfl
            | succ i => show y.id :: (setNum r i _).map (·.id) = y.id :: r.map (·.id); rw [ih]
        have hmem : ∀ (l : List Mb) (i : Nat) (y : Mb), y ∈ setNum l i (m.list.headD 0) → ∃ z ∈ l, y.id = z.id ∧ (y.num = z.num ∨ y.num = n) := by
          intro l
          induction l with
          | nil => intro i y hy; cases i <;> cases hy
          | cons w r ih =>
            intro i y hy
            cases i with
            | zero =>
              rcases List.mem_cons.1 hy with rfl | hy
              · exact ⟨w, List.mem_cons_self .., rfl, .inr (by rw [hn]; rfl)⟩
              · exact ⟨y, List.mem_cons_of_mem _ hy, rfl, .inl rfl⟩
            | succ i =>
              rcases List.mem_cons.1 hy with rfl | hy
              · exact ⟨_, List.mem_cons_self .., rfl, .inl rfl⟩
              · obtain ⟨z, hz, e⟩ := ih i y hy
                exact ⟨z, List.mem_cons_of_mem _ hz, e⟩
        refine ⟨?_, fun y hy => ?_, by simpa [setNum] using h.few, h.parts, rise_putO h.keys _ _, fun p hp => ?_, hb.gen, h.ever⟩
        · have h1 : (x.mem.map (·.id)).Pairwise (· < ·) := by rw [List.pairwise_map]; exact h.rise
          rw [← hmod x.mem ((placeN x.mem m.a).getD 0), List.pairwise_map] at h1
          exact h1
        · obtain ⟨z, hz, e1, e2⟩ := hmem _ _ _ hy
          have := h.mems z hz
          rw [e1]
          simp only
          rcases e2 with e2 | e2 <;> rw [e2] <;> omega
        · rcases (mem_putO _ _ _ _).1 hp with rfl | ⟨hp, _⟩
          · simp only; omega
          · exact h.offs p hp
    · split
      · have e : (syncI x m).1 = x := by unfold syncI; split <;> rfl
        rw [e]; exact h.mono (by omega)
      · exact h.mono (by omega)
theorem apply_ok {N : Nat} {S : Gs} (h : GsOk N S) (m : Rc) (hrc : RcOk m) : GsOk (N + 1) (applyI S m).1 := by
  have h1 := h.mono (show N ≤ N + 1 by omega)
  unfold applyI
  split
  · unfold joinI
    by_cases hj : joinE S.gs m ≠ 0
    · rw [if_pos hj]; exact h1
    · rw [if_neg hj]
      obtain ⟨j1, j2, j3, j4, j5, j6, j7⟩ := joinE_zero (by omega : joinE S.gs m = 0)
      refine h1.put (joinG_ok (foundOk h m.key) m j3 j6 j7) ?_ j5
      unfold nameB at j1
      simp only [Bool.and_eq_true, decide_eq_true_eq] at j1
      show m.name.data.toList.length ≤ 32
      have := j1.1.2
      simpa using this
  · split
    · unfold askI
      cases hg : getG S.gs m.key with
      | none => exact h1
      | some x => exact h1.set (oneI_ok (h.each _ (get_mem hg)).1 m)
    · split
      · unfold epochI
        by_cases he : m.a < S.epoch
        · rw [if_pos he]; exact h1
        · rw [if_neg he]; exact ⟨h1.names, h1.few, h1.each, hrc.2.1⟩
      · exact h1
end Go.Proofs.Ytdnpbhijjmlecaa
