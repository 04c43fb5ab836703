/- ONCE, without memory: what Ask answers is what a log may give. -/
import Derived.Test.YtkdbclnnmpnfgaaHD13
import Derived.Test.YtkdbclnnmpnfgaaH15
namespace Go.Proofs.Ytkdbclnnmpnfgaa
set_option linter.unusedSimpArgs false
set_option linter.unusedVariables false

def Lg.nt (x : Lg) : Nt := ⟨x.ep, x.seq, x.n, x.base⟩
def logN (pid : Int) (L : List Lg) : List Nt := (L.filter fun x => decide (x.pid = pid)).map Lg.nt
theorem logN_snoc (pid : Int) (L : List Lg) (b : Lg) : logN pid (L ++ [b]) = if b.pid = pid then logN pid L ++ [b.nt] else logN pid L := by
  unfold logN
  rw [List.filter_append, List.map_append]
  by_cases h : b.pid = pid
  · rw [if_pos h]; simp [List.filter_cons, h]
  · rw [if_neg h]; simp [List.filter_cons, h]
/-- The scan over one producer's notes. -/
def nA (s : As) (x : Nt) : As := if s.ep < 0 then ⟨x.ep, x.seq + x.n, s.count, s.found⟩ else s
def nB (s : As) (x : Nt) : As := if x.ep = s.ep then ⟨s.ep, s.behind, s.count + 1, s.found⟩ else s
def nC (b : Lg) (s : As) (x : Nt) : As := if x.ep = b.ep ∧ x.seq = b.seq ∧ x.n = b.n ∧ s.ep = b.ep ∧ s.count ≤ 5 then ⟨s.ep, s.behind, s.count, x.off⟩ else s
def nStep (b : Lg) (s : As) (x : Nt) : As := nC b (nB (nA s x) x) x
theorem nA_pos {s : As} {x : Nt} (h : s.ep < 0) : nA s x = ⟨x.ep, x.seq + x.n, s.count, s.found⟩ := if_pos h
theorem nA_neg {s : As} {x : Nt} (h : ¬ s.ep < 0) : nA s x = s := if_neg h
theorem nB_pos {s : As} {x : Nt} (h : x.ep = s.ep) : nB s x = ⟨s.ep, s.behind, s.count + 1, s.found⟩ := if_pos h
theorem nB_neg {s : As} {x : Nt} (h : ¬ x.ep = s.ep) : nB s x = s := if_neg h
theorem nC_pos {b : Lg} {s : As} {x : Nt} (h : x.ep = b.ep ∧ x.seq = b.seq ∧ x.n = b.n ∧ s.ep = b.ep ∧ s.count ≤ 5) : nC b s x = ⟨s.ep, s.behind, s.count, x.off⟩ := if_pos h
theorem nC_neg {b : Lg} {s : As} {x : Nt} (h : ¬ (x.ep = b.ep ∧ x.seq = b.seq ∧ x.n = b.n ∧ s.ep = b.ep ∧ s.count ≤ 5)) : nC b s x = s := if_neg h
def nAll (b : Lg) (l : List Nt) : As := l.foldr (fun x s => nStep b s x) as0
theorem asAll_eq (b : Lg) : ∀ L : List Lg, asAll b L = nAll b (logN b.pid L)
  | [] => rfl
  | x :: r => by
    have ih := asAll_eq b r
    show asStep b (asAll b r) x = _
    rw [ih]
    unfold logN
    by_cases h : x.pid = b.pid
    · have e : ((x :: r).filter fun x => decide (x.pid = b.pid)).map Lg.nt = x.nt :: (r.filter fun x => decide (x.pid = b.pid)).map Lg.nt := by simp [List.filter_cons, h]
      rw [e]
      show _ = nStep b (nAll b _) x.nt
      unfold asStep nStep asC asB asA nC nB nA
      rw [if_pos h]
      simp only [Lg.nt]
      have e2 : ((x.n : Int) = (b.n : Int)) ↔ x.n = b.n := by omega
      simp only [e2]
      rfl
    · have e : ((x :: r).filter fun x => decide (x.pid = b.pid)).map Lg.nt = (r.filter fun x => decide (x.pid = b.pid)).map Lg.nt := by simp [List.filter_cons, h]
      rw [e]
      unfold asStep
      rw [if_neg h]

/-- What the scan comes to. -/
structure Sc (b : Lg) (l : List Nt) (z : Nt) (s : As) : Prop where
  ep : s.ep = z.ep
  behind : s.behind = z.seq + z.n
  same : ∀ x ∈ l, (∀ y ∈ l, y.ep = z.ep) → s.count = l.length
  many : (∃ x ∈ l, x.ep ≠ z.ep) → 0 ≤ s.count
  found : s.found = if z.ep = b.ep then (match hitL l b.ep b.seq b.n with | some x => x.off | none => -1) else -1

theorem hit_long (x : Nt) (r : List Nt) (h : 5 ≤ r.length) (ep seq n : Int) : hitL (x :: r) ep seq n = hitL r ep seq n := by
  unfold hitL
  have e : (x :: r).length - 5 = (r.length - 5) + 1 := by simp; omega
  rw [e, List.drop_succ_cons]
theorem hit_short (x : Nt) (r : List Nt) (h : r.length < 5) (ep seq n : Int) : hitL (x :: r) ep seq n = if isRun ep seq n x = true then some x else hitL r ep seq n := by
  unfold hitL
  have e : (x :: r).length - 5 = 0 := by simp; omega
  have e2 : r.length - 5 = 0 := by omega
  rw [e, e2, List.drop_zero, List.drop_zero, List.find?_cons]
  cases isRun ep seq n x <;> rfl
theorem isRun_iff (ep seq n : Int) (x : Nt) : isRun ep seq n x = true ↔ (x.ep = ep ∧ x.seq = seq ∧ x.n = n) := by unfold isRun; simp [and_assoc]

theorem scan (b : Lg) : ∀ (l : List Nt) (z : Nt), LOk l → l[l.length - 1]? = some z → Sc b l z (nAll b l)
  | [], z, _, h => by simp at h
  | [x], z, hl, h => by
    simp at h; subst h
    have hx := hl.all x (by simp)
    have e1 := hx.ep
    show Sc b [x] x (nStep b as0 x)
    unfold nStep as0
    rw [nA_pos (by simp), nB_pos rfl]
    have hh := hit_short x [] (by simp) b.ep b.seq b.n
    by_cases hm : x.ep = b.ep ∧ x.seq = b.seq ∧ x.n = b.n
    · rw [nC_pos ⟨hm.1, hm.2.1, hm.2.2, hm.1, by simp⟩]
      refine ⟨rfl, rfl, fun _ _ _ => by simp, fun _ => by simp, ?_⟩
      simp only
      rw [if_pos hm.1, hh, if_pos ((isRun_iff _ _ _ _).2 hm)]
    · rw [nC_neg (fun h => hm ⟨h.1, h.2.1, h.2.2.1⟩)]
      refine ⟨rfl, rfl, fun _ _ _ => by simp, fun _ => by simp, ?_⟩
      simp only
      rw [hh, if_neg (fun h => hm ((isRun_iff _ _ _ _).1 h))]
      split <;> rfl
  | x :: y :: r, z, hl, h => by
    have hl2 : LOk (y :: r) := hl.sub (List.sublist_cons_self _ _)
    have hz : (y :: r)[(y :: r).length - 1]? = some z := by simpa using h
    have ih := scan b (y :: r) z hl2 hz
    have hzi := (List.getElem?_eq_some_iff.1 hz).1
    have hxz : Aft x z := hl.at_lt (i := 0) (j := (y :: r).length - 1 + 1) rfl (by simpa using h) (by omega)
    have hzo := hl2.all z (List.mem_of_getElem? hz)
    have hxo := hl.all x (by simp)
    show Sc b (x :: y :: r) z (nStep b (nAll b (y :: r)) x)
    generalize nAll b (y :: r) = s at *
    obtain ⟨sp, sb, sc, sf⟩ := s
    obtain ⟨i1, i2, i3, i4, i5⟩ := ih
    simp only at i1 i2 i3 i4 i5
    have e1 := hzo.ep
    have e2 := hxz.2.1
    unfold nStep
    rw [nA_neg (by simp only; omega)]
    by_cases hxe : x.ep = z.ep
    · have hall : ∀ y' ∈ y :: r, y'.ep = z.ep := fun y' hy' => by
        obtain ⟨j, hj, e⟩ := List.getElem_of_mem hy'
        have hyj : (y :: r)[j]? = some y' := by rw [← e]; exact List.getElem?_eq_getElem hj
        have h1 : x.ep ≤ y'.ep := (hl.at_lt (i := 0) (j := j + 1) rfl (by simpa using hyj) (by omega)).2.1
        have h2 : y'.ep ≤ z.ep := by
          have := lastEp_le hl2 hyj
          unfold lastEp at this
          rw [hz] at this
          exact this
        omega
      have hc := i3 y (by simp) hall
      rw [nB_pos (by simp only; omega)]
      by_cases hm : x.ep = b.ep ∧ x.seq = b.seq ∧ x.n = b.n
      · rcases Nat.lt_or_ge (y :: r).length 5 with hlt | hge
        · rw [nC_pos ⟨hm.1, hm.2.1, hm.2.2, by simp only; omega, by simp only; omega⟩]
          refine ⟨i1, i2, fun _ _ _ => by simp only [List.length_cons] at hc ⊢; omega, fun _ => by simp only; omega, ?_⟩
          simp only
          rw [if_pos (by omega), hit_short x _ hlt, if_pos ((isRun_iff _ _ _ _).2 hm)]
        · rw [nC_neg (by simp only; omega)]
          refine ⟨i1, i2, fun _ _ _ => by simp only [List.length_cons] at hc ⊢; omega, fun _ => by simp only; omega, ?_⟩
          simp only
          rw [i5, hit_long x _ hge]
      · rw [nC_neg (fun h => hm ⟨h.1, h.2.1, h.2.2.1⟩)]
        refine ⟨i1, i2, fun _ _ _ => by simp only [List.length_cons] at hc ⊢; omega, fun _ => by simp only; omega, ?_⟩
        simp only
        rw [i5]
        rcases Nat.lt_or_ge (y :: r).length 5 with hlt | hge
        · rw [hit_short x _ hlt, if_neg (fun h => hm ((isRun_iff _ _ _ _).1 h))]
        · rw [hit_long x _ hge]
    · rw [nB_neg (by simp only; omega)]
      have hnm : ¬ (x.ep = b.ep ∧ x.seq = b.seq ∧ x.n = b.n ∧ sp = b.ep ∧ sc ≤ 5) := fun h => by omega
      rw [nC_neg hnm]
      have hsc : 0 ≤ sc := by
        by_cases ha : ∀ y' ∈ y :: r, y'.ep = z.ep
        · have := i3 y (by simp) ha; omega
        · refine i4 ?_
          simp only [Classical.not_forall] at ha
          obtain ⟨y', hy', hne⟩ := ha
          exact ⟨y', hy', hne⟩
      refine ⟨i1, i2, fun _ _ ha => absurd (ha x (by simp)) hxe, fun _ => hsc, ?_⟩
      simp only
      rw [i5]
      by_cases hzb : z.ep = b.ep
      · rw [if_pos hzb, if_pos hzb]
        rcases Nat.lt_or_ge (y :: r).length 5 with hlt | hge
        · rw [hit_short x _ hlt, if_neg (fun h => by have := ((isRun_iff _ _ _ _).1 h).1; omega)]
        · rw [hit_long x _ hge]
      · rw [if_neg hzb, if_neg hzb]

theorem hit_mem {l : List Nt} {ep seq n : Int} {x : Nt} (h : hitL l ep seq n = some x) : x ∈ l ∧ x.ep = ep := by
  unfold hitL at h
  have h1 := List.mem_of_find?_eq_some h
  have h2 := List.find?_some h
  exact ⟨List.mem_of_mem_drop h1, ((isRun_iff _ _ _ _).1 h2).1⟩

/-- What Ask finds is what the log may give. -/
theorem good_find (b : Lg) (hb : LgOk b) (l : List Nt) (hl : LOk l) : Good (nAll b l) b (findL l b.ep b.seq b.n).1 (findL l b.ep b.seq b.n).2 := by
  have b1 := hb.ep
  have b2 := hb.seq
  cases hz : l[l.length - 1]? with
  | none =>
    have := last_none hz
    subst this
    have e : nAll b [] = as0 := rfl
    rw [e]
    unfold Good as0 findL oldB hitL nextL
    simp
    by_cases h0 : b.seq = 0
    · rw [if_pos h0]; simp; omega
    · rw [if_neg h0]
      have : 0 < b.seq := by omega
      rw [if_pos this]; simp; omega
  | some z =>
    have hs := scan b l z hl hz
    have hzo := hl.all z (List.mem_of_getElem? hz)
    have hzl : lastEp l = z.ep := by unfold lastEp; rw [hz]
    have ho : oldB l b.ep = decide (b.ep < z.ep) := by unfold oldB; rw [hz]
    have hn : nextL l b.ep = if b.ep = z.ep then z.seq + z.n else 0 := by unfold nextL; rw [hz]
    generalize nAll b l = s at *
    obtain ⟨s1, s2, _, _, s5⟩ := hs
    unfold findL
    rw [ho, hn]
    by_cases h1 : b.ep < z.ep
    · rw [if_pos (by simpa using h1)]
      rw [if_neg (by omega)] at s5
      exact .inr ⟨by omega, .inr (.inr (.inl ⟨rfl, by omega⟩))⟩
    · rw [if_neg (by simpa using h1)]
      by_cases h2 : b.ep = z.ep
      · rw [if_pos h2]
        rw [if_pos h2.symm] at s5
        cases hh : hitL l b.ep b.seq b.n with
        | some x =>
          rw [hh] at s5
          simp only at s5 ⊢
          have hx := (hl.all x (hit_mem hh).1).off
          exact .inl ⟨by omega, rfl, by omega⟩
        | none =>
          rw [hh] at s5
          simp only at s5 ⊢
          refine .inr ⟨by omega, ?_⟩
          by_cases h3 : b.seq = z.seq + z.n
          · rw [if_pos h3]; exact .inl ⟨rfl, rfl, by omega, by omega⟩
          · rw [if_neg h3]
            by_cases h4 : z.seq + z.n < b.seq
            · rw [if_pos h4]; exact .inr (.inr (.inr (.inl ⟨rfl, by omega, by omega⟩)))
            · rw [if_neg h4]; exact .inr (.inr (.inr (.inr (.inr ⟨rfl, by omega, by omega⟩))))
      · rw [if_neg h2]
        rw [if_neg (by omega)] at s5
        have hh : hitL l b.ep b.seq b.n = none := by
          cases hh : hitL l b.ep b.seq b.n with
          | none => rfl
          | some x =>
            obtain ⟨hx1, hx2⟩ := hit_mem hh
            obtain ⟨j, hj, e⟩ := List.getElem_of_mem hx1
            have := lastEp_le hl (i := j) (x := x) (by rw [← e]; exact List.getElem?_eq_getElem hj)
            omega
        rw [hh]
        simp only
        refine .inr ⟨by omega, ?_⟩
        by_cases h3 : b.seq = 0
        · rw [if_pos h3]; exact .inr (.inl ⟨rfl, rfl, by omega, h3⟩)
        · rw [if_neg h3, if_pos (by omega)]; exact .inr (.inr (.inr (.inr (.inl ⟨rfl, by omega, by omega⟩))))

/-- What is called new follows the notes, and has no sequence of theirs. -/
theorem new_find (b : Lg) (hb : LgOk b) (l : List Nt) (hl : LOk l) (he : (findL l b.ep b.seq b.n).2 = 0) (hat : (findL l b.ep b.seq b.n).1 < 0) :
    (∀ x ∈ l, x.ep = b.ep → x.seq + x.n ≤ b.seq) ∧ (∀ x ∈ l, x.ep ≤ b.ep) := by
  cases hz : l[l.length - 1]? with
  | none =>
    have := last_none hz
    subst this
    exact ⟨(fun x hx => by cases hx), (fun x hx => by cases hx)⟩
  | some z =>
    have hle : ∀ x ∈ l, x.ep ≤ z.ep ∧ (x.ep = z.ep → x.seq + x.n ≤ z.seq + z.n) := fun x hx => by
      obtain ⟨j, hj, e⟩ := List.getElem_of_mem hx
      have hxj : l[j]? = some x := by rw [← e]; exact List.getElem?_eq_getElem hj
      rcases Nat.eq_or_lt_of_le (show j ≤ l.length - 1 by omega) with e4 | e4
      · rw [e4, hz] at hxj; rw [Option.some.inj hxj]; exact ⟨Int.le_refl _, fun _ => Int.le_refl _⟩
      · have h1 := hl.at_lt hxj hz e4
        have h2 := (hl.all z (List.mem_of_getElem? hz)).n
        exact ⟨h1.2.1, fun e => by have := h1.2.2 e; omega⟩
    have ho : oldB l b.ep = decide (b.ep < z.ep) := by unfold oldB; rw [hz]
    have hn : nextL l b.ep = if b.ep = z.ep then z.seq + z.n else 0 := by unfold nextL; rw [hz]
    unfold findL at he hat
    rw [ho, hn] at he hat
    by_cases h1 : b.ep < z.ep
    · rw [if_pos (by simpa using h1)] at he; cases he
    · rw [if_neg (by simpa using h1)] at he hat
      cases hh : hitL l b.ep b.seq b.n with
      | some x =>
        rw [hh] at hat
        simp only at hat
        have hx := (hl.all x (hit_mem hh).1).off
        omega
      | none =>
        rw [hh] at he hat
        simp only at he hat
        by_cases h2 : b.ep = z.ep
        · rw [if_pos h2] at he hat
          by_cases h3 : b.seq = z.seq + z.n
          · exact ⟨fun x hx e => by have := (hle x hx).2 (by omega); omega, fun x hx => by have := (hle x hx).1; omega⟩
          · rw [if_neg h3] at he
            split at he <;> cases he
        · exact ⟨fun x hx e => by have := (hle x hx).1; omega, fun x hx => by have := (hle x hx).1; omega⟩
theorem new_follows (b : Lg) (hb : LgOk b) (l : List Nt) (hl : LOk l) (he : (findL l b.ep b.seq b.n).2 = 0) (hat : (findL l b.ep b.seq b.n).1 < 0) (ho : ∀ x ∈ l, x.off < b.base) : folB l b.nt = true := by
  obtain ⟨h1, h2⟩ := new_find b hb l hl he hat
  cases hz : l[l.length - 1]? with
  | none => unfold folB; rw [hz]
  | some z =>
    have hm := List.mem_of_getElem? hz
    rw [folB_some hz]
    have a := h2 z hm
    have c := ho z hm
    have d1 : decide (z.off < b.nt.off) = true := decide_eq_true (show z.off < b.base from c)
    have d2 : decide (z.ep ≤ b.nt.ep) = true := decide_eq_true (show z.ep ≤ b.ep from a)
    rw [d1, d2]
    by_cases e : z.ep = b.ep
    · have d3 : decide (z.seq + z.n ≤ b.nt.seq) = true := decide_eq_true (show z.seq + z.n ≤ b.seq from h1 z hm e)
      rw [d3]; simp
    · have d3 : decide (z.ep < b.nt.ep) = true := decide_eq_true (show z.ep < b.ep by omega)
      rw [d3]; simp
theorem no_lap (b : Lg) (hb : LgOk b) (L : List Lg) (hl : LOk (logN b.pid L)) (x : Lg) (hx : x ∈ L) (ho : overB2 x b = true) :
    ¬ ((findL (logN b.pid L) b.ep b.seq b.n).2 = 0 ∧ (findL (logN b.pid L) b.ep b.seq b.n).1 < 0) := by
  rintro ⟨he, hat⟩
  unfold overB2 at ho
  simp at ho
  obtain ⟨⟨⟨o1, o2⟩, o3⟩, o4⟩ := ho
  have hm : x.nt ∈ logN b.pid L := List.mem_map.2 ⟨x, List.mem_filter.2 ⟨hx, by simpa using o1⟩, rfl⟩
  have := (new_find b hb _ hl he hat).1 x.nt hm o2
  simp only [Lg.nt] at this
  omega
end Go.Proofs.Ytkdbclnnmpnfgaa

