/- What one record does to the group that it names. -/
import Derived.Test.YtdnpbhijjmlecaaG27
namespace Go.Proofs.Ytdnpbhijjmlecaa
set_option linter.unusedSimpArgs false
set_option linter.unusedVariables false

structure StepF (S S' : Gs) (m : Rc) (t : Td) : Prop where
  gen : (foundG S.gs m.key).gen ≤ (foundG S'.gs m.key).gen ∧ (foundG S'.gs m.key).gen ≤ (foundG S.gs m.key).gen + 1
  ep : S.epoch ≤ S'.epoch
  err : t.err ≠ 0 → (foundG S'.gs m.key).gen = (foundG S.gs m.key).gen
  join : m.kind = 1 → m.a = 0 → t.err = 0 → t.mem = (foundG S.gs m.key).ever + 1 ∧ (foundG S'.gs m.key).ever = (foundG S.gs m.key).ever + 1
  ever : (foundG S.gs m.key).ever ≤ (foundG S'.gs m.key).ever
  com : m.kind = 3 → m.c = 2 → t.err = 0 → offI (foundG S'.gs m.key) 2 = m.d ∧ ownerI (foundG S'.gs m.key) 2 = m.a ∧ m.b = (foundG S'.gs m.key).gen
  off : ¬ (m.kind = 3 ∧ m.c = 2 ∧ t.err = 0) → offI (foundG S'.gs m.key) 2 = offI (foundG S.gs m.key) 2
/-- Nothing is done. -/
theorem stepF_same {S S' : Gs} {m : Rc} {t : Td} (h : foundG S'.gs m.key = foundG S.gs m.key) (he : S.epoch ≤ S'.epoch) (hj : ¬ (m.kind = 1 ∧ m.a = 0 ∧ t.err = 0)) (hc : ¬ (m.kind = 3 ∧ m.c = 2 ∧ t.err = 0)) : StepF S S' m t := by
  refine ⟨by rw [h]; omega, he, fun _ => by rw [h], fun a b c => absurd ⟨a, b, c⟩ hj, by rw [h]; omega, fun a b c => absurd ⟨a, b, c⟩ hc, fun _ => by rw [h]⟩
theorem found_put {gs : GL} {n : List UInt8} (y : Gr) : foundG (putG gs n y) n = y := by unfold foundG; rw [get_putG, if_pos rfl]; rfl
theorem found_set {gs : GL} {n : List UInt8} {x : Gr} (h : getG gs n = some x) (y : Gr) : foundG (setG gs n y) n = y := by unfold foundG; rw [get_setG, if_pos rfl, h]; rfl
theorem own_num (x x' : Gr) (hp : x'.parts = x.parts) (hl : x'.mem.length = x.mem.length) (part n : Int) : ∀ (r : List Mb) (i j : Nat), ownFrom x' part i (setNum r j n) = ownFrom x part i r
  | [], i, j => by cases j <;> rfl
  | m :: r, i, 0 => by
    show ownFrom x' part i ({ m with num := n } :: r) = ownFrom x part i (m :: r)
    unfold ownFrom
    rw [hp, hl]
    congr 1
    have := own_num x x' hp hl part n r (i + 1) r.length
    have e : setNum r r.length n = r := by
      unfold setNum
      rw [List.modify_eq_self (by simp)]
    rw [e] at this
    exact this
  | m :: r, i, j + 1 => by
    show ownFrom x' part i (m :: setNum r j n) = ownFrom x part i (m :: r)
    unfold ownFrom
    rw [hp, hl, own_num x x' hp hl part n r (i + 1) j]
theorem step_ok {N : Nat} {S : Gs} (h : GsOk N S) (m : Rc) : StepF S (applyI S m).1 m (applyI S m).2 := by
  have hg := (foundOk h m.key).gen
  unfold applyI
  by_cases h1 : m.kind = 1
  · rw [if_pos h1]
    unfold joinI
    by_cases hj : joinE S.gs m ≠ 0
    · rw [if_pos hj]
      exact stepF_same rfl (Int.le_refl _) (fun k => hj k.2.2) (fun k => by omega)
    · rw [if_neg hj]
      refine ⟨?_, Int.le_refl _, fun k => absurd rfl k, fun _ ha _ => ?_, ?_, fun k => by omega, fun _ => ?_⟩
      · show (foundG S.gs m.key).gen ≤ (foundG (putG S.gs m.key _) m.key).gen ∧ _
        simp only [found_put]
        show (foundG S.gs m.key).gen ≤ (foundG S.gs m.key).gen + 1 ∧ (foundG S.gs m.key).gen + 1 ≤ (foundG S.gs m.key).gen + 1
        omega
      · simp only [found_put]
        show joinD _ m = _ ∧ (joinX _ m).ever = _
        unfold joinD joinX
        rw [if_pos ha, if_pos ha]
        exact ⟨rfl, rfl⟩
      · simp only [found_put]
        show _ ≤ (joinX _ m).ever
        unfold joinX
        split
        · show _ ≤ (foundG S.gs m.key).ever + 1; omega
        · exact Int.le_refl _
      · simp only [found_put]
        show offI (joinG _ m) 2 = _
        unfold offI joinG joinX
        split <;> rfl
  · rw [if_neg h1]
    by_cases h2 : m.kind = 2 ∨ m.kind = 3 ∨ m.kind = 4 ∨ m.kind = 6
    · rw [if_pos h2]
      unfold askI
      cases hx : getG S.gs m.key with
      | none => exact stepF_same rfl (Int.le_refl _) (fun k => h1 k.1) (fun k => by have := k.2.2; unfold errT at this; simp at this)
      | some x =>
        have hfx : foundG S.gs m.key = x := by unfold foundG; rw [hx]; rfl
        show StepF S { S with gs := setG S.gs m.key (oneI x m).1 } m (oneI x m).2
        have hfs : foundG ({ S with gs := setG S.gs m.key (oneI x m).1 } : Gs).gs m.key = (oneI x m).1 := found_set hx _
        by_cases k2 : m.kind = 2
        · have e : oneI x m = leaveI x m := by unfold oneI; rw [if_pos k2]
          rw [e] at hfs ⊢
          unfold leaveI at hfs ⊢
          cases hp : placeN x.mem m.a with
          | none =>
            rw [hp] at hfs
            exact stepF_same (by rw [hfs, hfx]) (Int.le_refl _) (fun k => h1 k.1) (fun k => by omega)
          | some i =>
            rw [hp] at hfs
            refine ⟨?_, Int.le_refl _, fun k => absurd rfl k, fun k => absurd k h1, ?_, fun k => by omega, fun _ => ?_⟩
            · rw [hfs, hfx]; simp only; omega
            · rw [hfs, hfx]; exact Int.le_refl _
            · rw [hfs, hfx]; rfl
        · by_cases k3 : m.kind = 3
          · have e : oneI x m = commitI x m := by unfold oneI; rw [if_neg k2, if_pos k3]
            rw [e] at hfs ⊢
            unfold commitI at hfs ⊢
            by_cases hc : comE x m ≠ 0
            · rw [if_pos hc] at hfs ⊢
              exact stepF_same (by rw [hfs, hfx]) (Int.le_refl _) (fun k => h1 k.1) (fun k => hc k.2.2)
            · rw [if_neg hc] at hfs ⊢
              have hok : GrOk N x := by rw [← hfx]; exact foundOk h m.key
              obtain ⟨z1, zb, zd, ⟨n, hn, hn2, zz⟩, zo, zc1, zc2⟩ := comE_zero (m := m) hok (by omega)
              refine ⟨?_, Int.le_refl _, fun k => absurd rfl k, fun k => absurd k h1, ?_, fun _ hc2 _ => ?_, fun hno => ?_⟩
              · rw [hfs, hfx]; simp only; omega
              · rw [hfs, hfx]; exact Int.le_refl _
              · rw [hfs]
                refine ⟨?_, ?_, zb⟩
                · show (getO (putO x.offs m.c m.d) 2).getD (-1) = m.d
                  rw [get_putO, if_pos hc2]; rfl
                · refine Eq.trans ?_ zo
                  rw [hc2]
                  exact own_num x { x with offs := putO x.offs 2 m.d, mem := setNum x.mem ((placeN x.mem m.a).getD 0) (m.list.headD 0) } rfl (by simp [setNum]) 2 _ x.mem 0 _
              · rw [hfs, hfx]
                have hc2 : ¬ m.c = 2 := fun hh => hno ⟨k3, hh, rfl⟩
                show (getO (putO x.offs m.c m.d) 2).getD (-1) = (getO x.offs 2).getD (-1)
                rw [get_putO, if_neg hc2]
          · have e : (oneI x m).1 = x := by
              unfold oneI
              rw [if_neg k2, if_neg k3]
              split
              · unfold syncI; split <;> rfl
              · rfl
            exact stepF_same (by rw [hfs, e, hfx]) (Int.le_refl _) (fun k => h1 k.1) (fun k => k3 k.1)
    · rw [if_neg h2]
      by_cases h5 : m.kind = 5
      · rw [if_pos h5]
        unfold epochI
        by_cases he : m.a < S.epoch
        · rw [if_pos he]
          exact stepF_same rfl (Int.le_refl _) (fun k => h1 k.1) (fun k => by omega)
        · rw [if_neg he]
          exact stepF_same rfl (by show S.epoch ≤ m.a; omega) (fun k => h1 k.1) (fun k => by omega)
      · rw [if_neg h5]
        exact stepF_same rfl (Int.le_refl _) (fun k => h1 k.1) (fun k => by omega)
end Go.Proofs.Ytdnpbhijjmlecaa
