/- The document's decisions without memory: what each makes of a right state, in the document's own order. -/
import Derived.Test.YtfahepeemodcbaaN9
namespace Go.Proofs.Ytfahepeemodcbaa
open Go.RowKit Go.Maps
set_option linter.unusedSimpArgs false
set_option linter.unusedVariables false

theorem headL_mem {l : List Int} (h : l ≠ []) : headL l ∈ l := by
  cases l with
  | nil => exact absurd rfl h
  | cons x r => simp [headL]
theorem out_nil {l : List Int} {b : Int} (hd : l.Nodup) (h : (outL l [b]).length = 0) : l.length ≤ 1 := by
  have h1 : outL l [b] = [] := List.length_eq_zero_iff.1 h
  have h2 : ∀ x ∈ l, x = b := fun x hx => by
    by_cases e : x = b
    · exact e
    · have : x ∈ outL l [b] := mem_outL.2 ⟨hx, by simpa using e⟩
      rw [h1] at this; cases this
  match l, hd, h2 with
  | [], _, _ => simp
  | [x], _, _ => simp
  | x :: y :: r, hd, h2 =>
    have e1 := h2 x (by simp); have e2 := h2 y (by simp)
    simp [e1, e2] at hd
theorem fenIsr_doc {p : Pt} (hr : RightP p) (b : Int) : (if (outL p.isr [b]).length = 0 then p.isr else outL p.isr [b]) = fenIsr p b := by
  unfold fenIsr
  by_cases h0 : (outL p.isr [b]).length = 0
  · have := out_nil hr.isr.1 h0
    rw [if_pos h0, if_neg (by omega)]
  · rw [if_neg h0]
    by_cases h1 : 1 < p.isr.length
    · rw [if_pos h1]
    · rw [if_neg h1]
      apply outL_full
      have := len_outL p.isr [b]
      omega
/-- The document's Fence of a right state. -/
def fenceD (p : Pt) (b : Int) (up : List Int) : Pt × Int :=
  if p.leader ≠ b ∧ ((outL p.isr [b]).length = p.isr.length ∨ (outL p.isr [b]).length = 0) then (p, 0)
  else
    if p.leader = b then verP (ledP { p with isr := fenIsr p b } (headL (docL p.reps (fenIsr p b) (outL up [b]) b))) else verP { p with isr := fenIsr p b }
theorem doc_up (l a up : List Int) (b : Int) : docL l a (outL up [b]) b = outL (inL (inL l a) up) [b] := by
  unfold docL outL inL
  simp only [List.filter_filter]
  apply List.filter_congr
  intro x _
  by_cases h : x = b
  · subst h; simp [lackB, hasB]
  · simp [lackB, hasB, h]
theorem fence_doc {p : Pt} (hr : RightP p) (b : Int) (hb : upB b 7 = true) (up : List Int) : fenceP p b up = fenceD p b up := by
  have hB := upB_iff.1 hb
  have hR := rightB_iff.2 hr
  have hF := fenIsr_doc hr b
  unfold fenceP fenceD
  rw [hR, hb]
  simp only [Bool.not_true, Bool.or_self, Bool.false_eq_true, if_false]
  by_cases hl : p.leader = b
  · have hne : fenL p b up ≠ p.leader := by
      unfold fenL
      rw [if_pos hl]
      unfold heirP
      by_cases he : outL (inL (inL (fenP p b).reps (fenP p b).isr) up) [(fenP p b).leader] = []
      · rw [he]; show (0 : Int) ≠ _; omega
      · have := mem_outL.1 (headL_mem he)
        intro e
        exact this.2 (by rw [e]; simp [fenP])
    rw [if_neg (fun h => hne h.1), if_neg (fun h => h.1 hl), if_pos hl, led_ver, doc_up]
    unfold fenL heirP
    rw [if_pos hl]
    simp only [fenP, hl]
  · have h1 : fenL p b up = p.leader := by unfold fenL; rw [if_neg hl]
    rw [h1]
    by_cases h2 : (outL p.isr [b]).length = p.isr.length ∨ (outL p.isr [b]).length = 0
    · have h3 : fenIsr p b = p.isr := by
        rw [← hF]
        by_cases h0 : (outL p.isr [b]).length = 0
        · rw [if_pos h0]
        · rw [if_neg h0]; exact outL_full (h2.resolve_right h0)
      rw [if_pos ⟨rfl, by rw [h3]⟩, if_pos ⟨hl, h2⟩]
      unfold fenP; rw [h3]
    · have h3 : fenIsr p b = outL p.isr [b] := by rw [← hF, if_neg (fun e => h2 (.inr e))]
      rw [if_neg (fun h => h2 (.inl (by rw [← h3]; exact h.2))), if_neg (fun h => h2 h.2), if_neg hl, ver_changed]
      rfl
/-- The document's Alter of a right state, behind the tests of numbers. -/
theorem alter_doc {p : Pt} (hR : rightB p = true) (l e v : Int) (isr up : List Int) : alterP p l e v isr up =
    if e < p.epoch ∨ (e = p.epoch ∧ v < p.ver) then (Pt.zero, 13) else if p.epoch < e ∨ p.ver < v then (Pt.zero, 14)
    else if l = 0 ∨ l ≠ p.leader then (Pt.zero, 19)
    else if !(idsB isr && hasB isr l && isr.all (hasB p.reps) && (outL isr p.isr).all (hasB up)) then (Pt.zero, 1)
    else verP { p with isr := inL p.reps isr } := by
  unfold alterP
  rw [hR]
  simp only [Bool.not_true, Bool.false_eq_true, if_false]
  unfold heldP
  by_cases h1 : e < p.epoch ∨ (e = p.epoch ∧ v < p.ver)
  · rw [if_pos h1, if_pos h1, if_pos (by decide)]
  · rw [if_neg h1, if_neg h1]
    by_cases h2 : p.epoch < e ∨ p.ver < v
    · rw [if_pos h2, if_pos h2, if_pos (by decide)]
    · rw [if_neg h2, if_neg h2, if_neg (by decide)]
      by_cases h3 : l = 0 ∨ l ≠ p.leader
      · rw [if_pos h3, if_pos h3]
      · rw [if_neg h3, if_neg h3]
        have h4 : l = p.leader := Decidable.not_not.1 fun h => h3 (.inr h)
        subst h4
        rw [ver_changed]
        rfl
theorem begin_doc {p : Pt} (hR : rightB p = true) (t up : List Int) : beginP p t up =
    if !mayB t then (Pt.zero, 1) else if movingB p then (Pt.zero, 19) else if !(outL t p.reps).all (hasB up) then (Pt.zero, 8)
    else if p.reps = t then (p, 0) else verP (begP p t) := by
  unfold beginP
  rw [hR, ver_changed]
  simp only [Bool.not_true, Bool.false_or]
  rfl
def setD (p : Pt) (T I : List Int) : Pt := { p with reps := T, isr := I, add := [], rem := [] }
theorem finish_doc {p : Pt} (hr : RightP p) (up : List Int) : finishP p up =
    if !movingB p || !(targetsP p).all (hasB p.isr) then (Pt.zero, 19)
    else if p.leader ≠ 0 ∧ hasB (targetsP p) p.leader = false then verP (ledP (setD p (targetsP p) (inL p.isr (targetsP p))) (headL (docL (targetsP p) (inL p.isr (targetsP p)) up 0)))
    else verP (setD p (targetsP p) (inL p.isr (targetsP p))) := by
  have hR := rightB_iff.2 hr
  have hI : inL p.isr (targetsP p) = outL p.isr p.rem := by
    unfold inL outL
    apply List.filter_congr
    intro x hx
    have h1 := hr.isrIn x hx
    have : x ∈ targetsP p ↔ x ∉ p.rem := by unfold targetsP; rw [mem_outL]; exact ⟨fun h => h.2, fun h => ⟨h1, h⟩⟩
    by_cases h2 : x ∈ p.rem
    · have h3 : ¬ x ∈ targetsP p := fun h => this.1 h h2
      simp [hasB, lackB, h2, h3]
    · have h3 : x ∈ targetsP p := this.2 h2
      simp [hasB, lackB, h2, h3]
  unfold finishP
  rw [hR]
  simp only [Bool.not_true, Bool.false_eq_true, if_false]
  by_cases h0 : (!movingB p || !(targetsP p).all (hasB p.isr)) = true
  · rw [if_pos h0, if_pos h0]
  · rw [if_neg h0, if_neg h0]
    unfold settledP
    by_cases h1 : p.leader ≠ 0 ∧ hasB (targetsP p) p.leader = false
    · rw [if_pos h1]
      have h2 : p.leader ∉ targetsP p := fun h => by have := hasB_iff.2 h; rw [h1.2] at this; cases this
      have h3 : p.leader ∈ p.isr := hr.lead.resolve_left h1.1
      have h4 : p.leader ∈ p.rem := Decidable.not_not.1 fun h => h2 (mem_outL.2 ⟨hr.isrIn _ h3, h⟩)
      rw [led_ver]
      have e1 : setD p (targetsP p) (inL p.isr (targetsP p)) = setP p p.rem := by unfold setD setP; rw [hI]; rfl
      rw [e1]
      congr 1
      unfold setL
      rw [if_pos (hasB_iff.2 h4)]
      unfold heirP docL
      congr 1
      rw [hI]
      show outL (inL (inL (outL p.reps p.rem) (outL p.isr p.rem)) up) [p.leader] = outL (inL (inL (outL p.reps p.rem) (outL p.isr p.rem)) up) [0]
      generalize hG : inL (inL (outL p.reps p.rem) (outL p.isr p.rem)) up = G
      have hA : ∀ x ∈ G, x ∉ [p.leader] := fun x hx hm => by
        rw [← hG] at hx
        have hx1 := (mem_inL.1 (mem_inL.1 hx).1).1
        simp at hm
        subst hm
        exact h2 hx1
      have hZ : ∀ x ∈ G, x ∉ [(0 : Int)] := fun x hx hm => by
        rw [← hG] at hx
        have hx1 := (mem_outL.1 (mem_inL.1 (mem_inL.1 hx).1).1).1
        have := hr.reps.2 x hx1
        simp at hm; omega
      rw [outL_self hA, outL_self hZ]
    · rw [if_neg h1, ver_changed]
      have e1 : setD p (targetsP p) (inL p.isr (targetsP p)) = setP p p.rem := by unfold setD setP; rw [hI]; rfl
      rw [e1]
      congr 1
      unfold setL
      have h4 : p.leader ∉ p.rem := fun h => by
        have hz := hr.rem.2 _ h
        exact h1 ⟨by omega, by
          have : p.leader ∉ targetsP p := fun hm => (mem_outL.1 hm).2 h
          simp [hasB, this]⟩
      rw [if_neg (by rw [hasB_iff]; exact h4)]
      rfl
theorem cancel_doc {p : Pt} (hr : RightP p) (up : List Int) : cancelP p up =
    if !movingB p || p.isr.all (hasB p.add) then (Pt.zero, 19)
    else if p.leader ≠ 0 ∧ hasB p.add p.leader = true then verP (ledP (setD p (outL p.reps p.add) (outL p.isr p.add)) (headL (docL (outL p.reps p.add) (outL p.isr p.add) up p.leader)))
    else verP (setD p (outL p.reps p.add) (outL p.isr p.add)) := by
  have hR := rightB_iff.2 hr
  unfold cancelP
  rw [hR]
  simp only [Bool.not_true, Bool.false_eq_true, if_false]
  by_cases h0 : (!movingB p || p.isr.all (hasB p.add)) = true
  · rw [if_pos h0, if_pos h0]
  · rw [if_neg h0, if_neg h0]
    unfold settledP setL
    by_cases h1 : p.leader ≠ 0 ∧ hasB p.add p.leader = true
    · rw [if_pos h1, led_ver, if_pos h1.2]; rfl
    · rw [if_neg h1, ver_changed]
      have h4 : ¬ hasB p.add p.leader = true := fun h => by
        have hz := hr.add.2 _ (hasB_iff.1 h)
        exact h1 ⟨by omega, h⟩
      rw [if_neg h4]
      rfl
theorem moving_doc (p : Pt) : movingB p = decide (0 < p.add.length + p.rem.length) := by
  unfold movingB
  rw [← Bool.decide_or]
  congr 1
  exact propext (by omega)

/-- A list of a call's own: behind both boxes. -/
def NW (w W : World) (v : Value) (l : List Int) : Prop := IL W v l ∧ In (fun b => w.heap.size + 2 ≤ b) v l
theorem NW.under {w W W' : World} {v : Value} {l : List Int} (h : NW w W v l) (hb : Below W.heap.size W W') : NW w W' v l := ⟨h.1.under hb, h.2⟩
theorem NW.ia {w W : World} {v : Value} {l : List Int} (h : NW w W v l) : IA w W v l := ⟨h.1, h.2.mono fun b hb => .inr hb⟩
theorem NW.set {w W : World} {v : Value} {l : List Int} (h : NW w W v l) (j : Nat) (u : Value) : NW w (W.setCell ⟨w.heap.size, j, none⟩ u) v l := ⟨(h.ia.set (.inl rfl) j u).1, h.2⟩
theorem NW.nil (w W : World) : NW w W (.slice none 0 0) [] := ⟨IL.nil _, In.nil _ _⟩
theorem nw_new {w W W' : World} {v : Value} {l : List Int} (h : IL W' v l) (hn : In (fun b => W.heap.size ≤ b) v l) (hs : w.heap.size + 2 ≤ W.heap.size) : NW w W' v l := ⟨h, hn.mono fun b hb => by omega⟩
theorem rout_sl {w : World} {v u : Value} {l m : List Int} (h : IL w v l) (hm : IL w u m) : Calls Try.prog 63 #[v, u] w fun e w' => ∃ ra rc, e = .returned (.slice ra (outL l m).length rc) ∧ IL w' (.slice ra (outL l m).length rc) (outL l m) ∧ In (fun b => w.heap.size ≤ b) (.slice ra (outL l m).length rc) (outL l m) ∧ Below w.heap.size w w' :=
  (routL_any h hm).mono fun e w' ⟨v', e1, e2, e3, e4⟩ => by obtain ⟨va, vc, rfl, _⟩ := e2.shape; exact ⟨va, vc, e1, e2, e3, e4⟩
theorem rin_sl {w : World} {v u : Value} {l m : List Int} (h : IL w v l) (hm : IL w u m) : Calls Try.prog 43 #[v, u] w fun e w' => ∃ ra rc, e = .returned (.slice ra (inL l m).length rc) ∧ IL w' (.slice ra (inL l m).length rc) (inL l m) ∧ In (fun b => w.heap.size ≤ b) (.slice ra (inL l m).length rc) (inL l m) ∧ Below w.heap.size w w' :=
  (rinL_any h hm).mono fun e w' ⟨v', e1, e2, e3, e4⟩ => by obtain ⟨va, vc, rfl, _⟩ := e2.shape; exact ⟨va, vc, e1, e2, e3, e4⟩
theorem rcop_sl {w : World} {v : Value} {l : List Int} (h : IL w v l) : Calls Try.prog 65 #[v] w fun e w' => ∃ ra rc, e = .returned (.slice ra l.length rc) ∧ IL w' (.slice ra l.length rc) l ∧ In (fun b => w.heap.size ≤ b) (.slice ra l.length rc) l ∧ Below w.heap.size w w' :=
  (rcopied_any h).mono fun e w' ⟨v', e1, e2, e3, e4⟩ => by obtain ⟨va, vc, rfl, _⟩ := e2.shape; exact ⟨va, vc, e1, e2, e3, e4⟩
theorem rleads_sl {w W : World} {v : Value} {p : Pt} (h : PartM W v p) (hX : InP (fun b => w.heap.size + 2 ≤ b) v p) (l : Int) (hl : I64 l) (he : 1 ≤ p.epoch ∧ p.epoch ≤ 1000000000) {K : Pt} (hK : ledP p l = K) : Calls Try.prog 62 #[v, .int .i64 l] W fun e w' => ∃ x1 y1 x2 y2 x3 y3 x4 y4, e = .returned (.agg #[.int .i64 K.id, .int .i64 K.leader, .int .i64 K.epoch, .int .i64 K.ver, .slice x1 K.isr.length y1, .slice x2 K.reps.length y2, .slice x3 K.add.length y3, .slice x4 K.rem.length y4, .int .i64 K.min]) ∧ (NW w w' (.slice x1 K.isr.length y1) K.isr ∧ NW w w' (.slice x2 K.reps.length y2) K.reps ∧ NW w w' (.slice x3 K.add.length y3) K.add ∧ NW w w' (.slice x4 K.rem.length y4) K.rem) ∧ (I64 K.id ∧ I64 K.leader ∧ I64 K.epoch ∧ I64 K.ver ∧ I64 K.min) ∧ Below W.heap.size W w' := by
  subst hK
  refine (rleads_any h hX l hl he).mono ?_
  rintro e w' ⟨v', rfl, e2, e3, e4⟩
  obtain ⟨x1, y1, x2, y2, x3, y3, x4, y4, rfl, q1, q2, q3, q4, ii⟩ := e2.open
  obtain ⟨n1, n2, n3, n4⟩ := e3 _ _ _ _ _ _ _ _ _ rfl
  exact ⟨x1, y1, x2, y2, x3, y3, x4, y4, rfl, ⟨⟨q1, n1⟩, ⟨q2, n2⟩, ⟨q3, n3⟩, ⟨q4, n4⟩⟩, ii, e4⟩
theorem doc_i64 {w : World} {v : Value} {l : List Int} (h : IL w v l) (a b : List Int) (but : Int) : I64 (headL (docL l a b but)) := by
  by_cases e : docL l a b but = []
  · rw [e]; exact i64z
  · have := headL_mem e
    unfold docL at this
    exact h.ok _ (mem_inL.1 (mem_inL.1 (mem_outL.1 this).1).1).1
theorem led_ver0 (p : Pt) (l : Int) : (ledP p l).ver = p.ver := by unfold ledP; split <;> rfl
end Go.Proofs.Ytfahepeemodcbaa
