/- Any record: what becomes of each partition. -/
import Derived.Test.YtcffomhcmilcpaaGreatKR0
import Derived.Test.YtcffomhcmilcpaaGreatK7
import Derived.Test.YtcffomhcmilcpaaGreatL0
namespace Go.Proofs.YtcffomhcmilcpaaGreat
set_option linter.unusedSimpArgs false
set_option linter.unusedVariables false

theorem up_put_keep {bs : BM} {m : Int} {b : Br} {x : Int} (h : x ∈ upL bs) (hne : x ≠ m) : x ∈ upL (putB bs m b) := by
  unfold upL at h ⊢
  obtain ⟨p, hp, rfl⟩ := List.mem_map.1 h
  obtain ⟨h1, h2⟩ := List.mem_filter.1 hp
  exact List.mem_map.2 ⟨p, List.mem_filter.2 ⟨(mem_putB _ _ _ _).2 (.inr ⟨h1, hne⟩), h2⟩, rfl⟩
theorem up_put_off {bs : BM} {m l : Int} {x : Int} (h : x ∈ upL (putB bs m ⟨l, false⟩)) : x ≠ m ∧ x ∈ upL bs := by
  unfold upL at h ⊢
  obtain ⟨p, hp, rfl⟩ := List.mem_map.1 h
  obtain ⟨h1, h2⟩ := List.mem_filter.1 hp
  rcases (mem_putB _ _ _ _).1 h1 with rfl | ⟨h3, h4⟩
  · cases h2
  · exact ⟨h4, List.mem_map.2 ⟨p, List.mem_filter.2 ⟨h3, h2⟩, rfl⟩⟩
theorem up_put_on (bs : BM) (m l : Int) : m ∈ upL (putB bs m ⟨l, true⟩) := by
  unfold upL
  exact List.mem_map.2 ⟨(m, ⟨l, true⟩), List.mem_filter.2 ⟨(mem_putB _ _ _ _).2 (.inl rfl), rfl⟩, rfl⟩
theorem up_val {bs : BM} (hk : bs.Pairwise (fun p q => p.1 < q.1)) {x : Int} (h : x ∈ upL bs) : (valB bs x).up = true := by
  unfold upL at h
  obtain ⟨p, hp, rfl⟩ := List.mem_map.1 h
  obtain ⟨h1, h2⟩ := List.mem_filter.1 hp
  obtain ⟨i, hi, e⟩ := List.getElem_of_mem h1
  rw [valB_at bs hk i p (by rw [← e]; exact List.getElem?_eq_getElem hi)]
  exact h2
/-- What a record asks of the parts, in all. -/
def Good (I J : Im) (k : Int) : Prop := LUp J ∧ I.parts.length ≤ J.parts.length ∧ ∀ (i : Nat) p q, I.parts[i]? = some p → J.parts[i]? = some q → Rise p q k
theorem good_same {I J : Im} {k : Int} (hl : LUp I) (hp : J.parts = I.parts) (hb : J.brs = I.brs) (ha : I.applied ≤ J.applied) : Good I J k := by
  refine ⟨⟨fun p h => ?_, fun p h => ?_⟩, by rw [hp]; exact Nat.le_refl _, fun i p q h1 h2 => ?_⟩
  · rw [hb]; exact hl.up p (by rw [← hp]; exact h)
  · have := hl.small p (by rw [← hp]; exact h); omega
  · rw [hp, h1] at h2; cases h2; exact Rise.refl _ _
theorem good_map {I J : Im} {k : Int} {f : Pt → Pt} (hp : J.parts = I.parts.map f) (hr : ∀ p ∈ I.parts, Rise p (f p) k) (hu : ∀ p ∈ I.parts, (f p).leader = 0 ∨ (f p).leader ∈ upL J.brs) (hs : ∀ p ∈ I.parts, (f p).ver ≤ J.applied + 1 ∧ (f p).epoch ≤ J.applied + 1) : Good I J k := by
  refine ⟨⟨fun p h => ?_, fun p h => ?_⟩, by rw [hp]; simp, fun i p q h1 h2 => ?_⟩
  · rw [hp] at h
    obtain ⟨y, hy, rfl⟩ := List.mem_map.1 h
    exact hu y hy
  · rw [hp] at h
    obtain ⟨y, hy, rfl⟩ := List.mem_map.1 h
    exact hs y hy
  · rw [hp, List.getElem?_map, h1] at h2
    simp at h2
    subst h2
    exact hr p (List.mem_of_getElem? h1)
theorem right_mem {I : Im} (ho : ImOk I) {p : Pt} (hp : p ∈ I.parts) : RightP p := by
  obtain ⟨i, hi, e⟩ := List.getElem_of_mem hp
  exact (ho.parts i p (by rw [← e]; exact List.getElem?_eq_getElem hi)).1
/-- A broker is put off. -/
theorem good_off {I : Im} (ho : ImOk I) (hl : LUp I) {n : Int} (ha : I.applied + 1 ≤ n) (ha2 : I.applied < 1000) {k b : Int} (hk : k ≠ 10) (hb : upB b 7 = true) (J : Im) (hJ : J.parts = (putOffI I b).parts) (hbr : ∀ x ∈ upL (putB I.brs b ⟨(valB I.brs b).life, false⟩), x ∈ upL J.brs) (hap : J.applied = n) : Good I J k := by
  have key : ∀ p ∈ I.parts, ∃ q, fenceP p b (upL (putB I.brs b ⟨(valB I.brs b).life, false⟩)) = (q, 0) ∧ (q.leader = 0 ∨ q.leader ∈ upL J.brs) ∧ Rules p q 0 := fun p hp => by
    have hs := hl.small p hp
    have hr := right_mem ho hp
    obtain ⟨q, h1, h2⟩ := fence_lead (up := upL (putB I.brs b ⟨(valB I.brs b).life, false⟩)) hr hb ⟨by omega, by omega⟩
    refine ⟨q, h1, ?_, fence_rules hr h1⟩
    rcases h2 with h | h | ⟨h, hne⟩
    · exact .inl h
    · exact .inr (hbr _ h)
    · rcases hl.up p hp with h3 | h3
      · exact .inl (h.trans h3)
      · rw [h]; exact .inr (hbr _ (up_put_keep h3 hne))
  have step : ∀ p ∈ I.parts, stepP (fun p => fenceP p b (upL (putB I.brs b ⟨(valB I.brs b).life, false⟩))) p = (fenceP p b (upL (putB I.brs b ⟨(valB I.brs b).life, false⟩))).1 := fun p hp => by
    obtain ⟨q, h1, _⟩ := key p hp
    unfold stepP
    simp only [h1]
    rfl
  refine good_map (f := stepP fun p => fenceP p b (upL (putB I.brs b ⟨(valB I.brs b).life, false⟩))) hJ (fun p hp => ?_) (fun p hp => ?_) (fun p hp => ?_)
  · rw [step p hp]; obtain ⟨q, h1, h2, h3⟩ := key p hp; rw [h1]; exact rise_of h3 hk
  · rw [step p hp]; obtain ⟨q, h1, h2, h3⟩ := key p hp; rw [h1]; exact h2
  · rw [step p hp]; obtain ⟨q, h1, h2, h3⟩ := key p hp; rw [h1, hap]
    have := rules_small h3 (n := I.applied + 1) (hl.small p hp)
    simp only
    omega
theorem good_apply {I : Im} (ho : ImOk I) (hl : LUp I) (ha : I.applied < 1000) (r : Rc) : Good I (applyI I r).1 r.kind := by
  have hap := applied_apply I r
  have h0 := ho.app.1
  have ho' : ImOk (nextI I) := ⟨ho.keys, ho.brs, ho.parts, ho.few, ho.tops, ho.name, ho.nums, ho.eps, ho.epv, ⟨by simp only [nextI]; omega, by simp only [nextI]; omega⟩⟩
  unfold applyI at hap ⊢
  unfold doI at hap ⊢
  by_cases e1 : r.kind = 1
  · rw [if_pos e1] at hap ⊢
    unfold registerI at hap ⊢
    split
    · rename_i hc; rw [if_pos hc] at hap; exact good_same hl rfl rfl (by show I.applied ≤ I.applied + 1; omega)
    · rename_i hc
      rw [if_neg hc] at hap
      have hb : upB r.a 7 = true := by
        simp only [Bool.or_eq_true, Bool.not_eq_true', not_or, Bool.not_eq_false] at hc
        exact hc.1
      split
      · rename_i hc2; rw [if_pos hc2] at hap; exact good_same hl rfl rfl (by show I.applied ≤ I.applied + 1; omega)
      · rename_i hc2
        rw [if_neg hc2] at hap
        have e : (nextI I).brs = I.brs := rfl
        by_cases hu : (valB (nextI I).brs r.a).up = true
        · rw [if_pos hu] at hap ⊢
          refine good_off ho hl (n := I.applied + 1) (by omega) ha (by omega) hb _ rfl (fun x hx => ?_) rfl
          exact up_put_keep hx (up_put_off hx).1
        · rw [if_neg hu] at hap ⊢
          refine ⟨⟨fun p hp => ?_, fun p hp => ?_⟩, Nat.le_refl _, fun i p q h1 h2 => ?_⟩
          · rcases hl.up p hp with h | h
            · exact .inl h
            · refine .inr (up_put_keep h (fun e2 => hu ?_))
              rw [← e2]
              exact up_val ho.keys h
          · have := hl.small p hp
            show p.ver ≤ I.applied + 1 + 1 ∧ p.epoch ≤ I.applied + 1 + 1
            omega
          · have h2' : I.parts[i]? = some q := h2
            rw [h1] at h2'; cases h2'; exact Rise.refl _ _
  rw [if_neg e1] at hap ⊢
  by_cases e2 : r.kind = 2
  · rw [if_pos e2] at hap ⊢
    unfold fenceI at hap ⊢
    split
    · exact good_same hl rfl rfl (by show I.applied ≤ I.applied + 1; omega)
    · rename_i hc
      have hb : upB r.a 7 = true := by
        cases hh : upB r.a 7
        · exfalso; apply hc; unfold refusedI; rw [hh]; simp
        · rfl
      exact good_off ho hl (n := I.applied + 1) (by omega) ha (by omega) hb _ rfl (fun x hx => hx) rfl
  rw [if_neg e2] at hap ⊢
  by_cases e3 : r.kind = 3
  · rw [if_pos e3] at hap ⊢
    unfold unfenceI at hap ⊢
    split
    · exact good_same hl rfl rfl (by show I.applied ≤ I.applied + 1; omega)
    · have key : ∀ p ∈ I.parts, stepP (fun p => backP p r.a) p = p ∨ ((stepP (fun p => backP p r.a) p).leader = r.a ∧ Rules p (stepP (fun p => backP p r.a) p) 0) := fun p hp => by
        unfold stepP
        by_cases hc : (backP p r.a).2 = 0
        · simp only [hc, if_true]
          have hpr : backP p r.a = ((backP p r.a).1, 0) := by rw [← hc]
          have hru := back_rules (k := 0) (right_mem ho hp) hpr
          unfold backP at hpr hru hc ⊢
          split
          · rename_i h1; rw [if_pos h1] at hc; cases hc
          · rename_i h1
            split
            · exact .inl rfl
            · rename_i h2
              right
              rw [if_neg h1, if_neg h2] at hpr hru
              refine ⟨?_, hru⟩
              have := (changed_zero hpr).1
              rw [this, nextP_eq]
        · simp only [hc, if_false]
          first | exact .inl rfl | exact .inl trivial
      refine good_map (f := stepP fun p => backP p r.a) rfl (fun p hp => ?_) (fun p hp => ?_) (fun p hp => ?_)
      · rcases key p hp with h | ⟨_, h⟩
        · rw [h]; exact Rise.refl _ _
        · exact rise_of h (by omega)
      · rcases key p hp with h | ⟨h, _⟩
        · rw [h]
          rcases hl.up p hp with h3 | h3
          · exact .inl h3
          · right
            by_cases hx : p.leader = r.a
            · rw [hx]; exact up_put_on _ _ _
            · exact up_put_keep h3 hx
        · rw [h]; exact .inr (up_put_on _ _ _)
      · have hs := hl.small p hp
        show (stepP _ p).ver ≤ I.applied + 1 + 1 ∧ (stepP _ p).epoch ≤ I.applied + 1 + 1
        rcases key p hp with h | ⟨_, h⟩
        · rw [h]; omega
        · have := rules_small h (n := I.applied + 1) hs; omega
  rw [if_neg e3] at hap ⊢
  by_cases e4 : r.kind = 4
  · rw [if_pos e4] at hap ⊢
    unfold topicI at hap ⊢
    split
    · exact good_same hl rfl rfl (by show I.applied ≤ I.applied + 1; omega)
    · rename_i hc
      split
      · exact good_same hl rfl rfl (by show I.applied ≤ I.applied + 1; omega)
      · split
        · exact good_same hl rfl rfl (by show I.applied ≤ I.applied + 1; omega)
        · rename_i hf
          have hbu : upB r.b 5 = true := by
            simp only [Bool.or_eq_true, Bool.not_eq_true', not_or, Bool.not_eq_false] at hc
            exact hc.1.2
          have h1 := upB_iff.1 hbu
          have hf2 : ((upL I.brs).length : Int) ≥ r.b := by
            have : ¬ (((upL (nextI I).brs).length : Int) < r.b) := fun h => hf (.inr h)
            have e : upL (nextI I).brs = upL I.brs := rfl
            rw [e] at this
            omega
          have hlen : 0 < (upL I.brs).length := by omega
          refine ⟨⟨fun p hp => ?_, fun p hp => ?_⟩, by show I.parts.length ≤ (I.parts ++ _).length; simp, fun i p q h2 h3 => ?_⟩
          · rcases List.mem_append.1 hp with hp | hp
            · exact hl.up p hp
            · obtain ⟨i, _, rfl⟩ := List.mem_map.1 hp
              right
              show headL (roundL (upL I.brs) i r.b.toNat) ∈ upL I.brs
              refine roundL_mem hlen (k := i) (n := r.b.toNat) ?_
              have hne : roundL (upL I.brs) i r.b.toNat ≠ [] := by intro e; have := congrArg List.length e; simp [roundL] at this; omega
              cases hR : roundL (upL I.brs) i r.b.toNat with
              | nil => exact absurd hR hne
              | cons a t => simp [headL]
          · show p.ver ≤ I.applied + 1 + 1 ∧ p.epoch ≤ I.applied + 1 + 1
            rcases List.mem_append.1 hp with hp | hp
            · have := hl.small p hp; omega
            · obtain ⟨i, _, rfl⟩ := List.mem_map.1 hp
              show (1 : Int) ≤ _ ∧ (1 : Int) ≤ _
              omega
          · have h3' : (I.parts ++ moreP I.parts.length (upL I.brs) r.b.toNat r.c r.a.toNat)[i]? = some q := h3
            have hi := (List.getElem?_eq_some_iff.1 h2).1
            rw [List.getElem?_append_left hi, h2] at h3'
            cases h3'
            exact Rise.refl _ _
  rw [if_neg e4] at hap ⊢
  by_cases e5 : r.kind = 5 ∨ r.kind = 6 ∨ r.kind = 7 ∨ r.kind = 10 ∨ r.kind = 9
  · rw [if_pos e5] at hap ⊢
    unfold turnI at hap ⊢
    split
    · exact good_same hl rfl rfl (by show I.applied ≤ I.applied + 1; omega)
    · rename_i hc
      have hb : upB r.a (nextI I).parts.length = true := by simpa using hc
      have hb2 := upB_iff.1 hb
      have ei : (nextI I).parts = I.parts := rfl
      have eb : (nextI I).brs = I.brs := rfl
      rw [ei] at hb2
      rw [ei, eb] at hap ⊢
      obtain ⟨j, hj⟩ : ∃ j : Nat, r.a = (j : Int) + 1 := ⟨r.a.toNat - 1, by omega⟩
      have hjl : j < I.parts.length := by omega
      have hja : r.a.toNat - 1 = j := by omega
      rw [hja, List.getElem?_eq_getElem hjl, Option.getD_some] at hap ⊢
      obtain ⟨hri, hidj⟩ := ho.parts j _ (List.getElem?_eq_getElem hjl)
      by_cases hz : (turnP I.brs r I.parts[j]).2 = 0
      · have hpr : turnP I.brs r I.parts[j] = ((turnP I.brs r I.parts[j]).1, 0) := by rw [← hz]
        obtain ⟨t1, ⟨k2, t2⟩, t3⟩ := turn_rise hri e5 hpr
        have hid : (turnP I.brs r I.parts[j]).1.id = (j : Int) + 1 := by
          obtain ⟨_, e | ⟨e, _⟩⟩ := t2
          · rw [e]; exact hidj
          · rw [e]; exact hidj
        generalize (turnP I.brs r I.parts[j]).1 = q at *
        have eJ : takeI I.parts (turnP I.brs r I.parts[j]) = I.parts.set j q := by
          rw [hpr]
          unfold takeI
          rw [if_pos rfl]
          simp only
          rw [hid]
          congr 1
          omega
        rw [eJ]
        refine ⟨⟨fun p hp => ?_, fun p hp => ?_⟩, by show _ ≤ (I.parts.set j q).length; simp, fun i p q2 h2 h3 => ?_⟩
        · rcases List.mem_or_eq_of_mem_set hp with hp | rfl
          · exact hl.up p hp
          · rcases t3 with h | h | h
            · exact .inl h
            · exact .inr h
            · rw [h]; exact hl.up _ (List.getElem_mem hjl)
        · show p.ver ≤ I.applied + 1 + 1 ∧ p.epoch ≤ I.applied + 1 + 1
          rcases List.mem_or_eq_of_mem_set hp with hp | rfl
          · have := hl.small p hp; omega
          · have := rules_small t2 (n := I.applied + 1) (hl.small _ (List.getElem_mem hjl)); omega
        · have h3' : (I.parts.set j q)[i]? = some q2 := h3
          by_cases hij : i = j
          · subst hij
            rw [List.getElem?_set_self hjl] at h3'
            cases h3'
            rw [List.getElem?_eq_getElem hjl] at h2
            cases h2
            exact t1
          · rw [List.getElem?_set_ne (fun e => hij e.symm), h2] at h3'
            cases h3'
            exact Rise.refl _ _
      · have eJ : takeI I.parts (turnP I.brs r I.parts[j]) = I.parts := by unfold takeI; rw [if_neg hz]
        rw [eJ]
        exact good_same hl rfl rfl (by show I.applied ≤ I.applied + 1; omega)
  rw [if_neg e5] at hap ⊢
  by_cases e8 : r.kind = 8
  · rw [if_pos e8] at hap ⊢
    unfold pidI at hap ⊢
    have hx : I.applied ≤ (nextI I).applied := by show I.applied ≤ I.applied + 1; omega
    split
    · exact good_same hl rfl rfl hx
    · split
      · exact good_same hl rfl rfl hx
      · split
        · split <;> exact good_same hl rfl rfl hx
        · split <;> exact good_same hl rfl rfl hx
  rw [if_neg e8]
  exact good_same hl rfl rfl (by show I.applied ≤ I.applied + 1; omega)
end Go.Proofs.YtcffomhcmilcpaaGreat

