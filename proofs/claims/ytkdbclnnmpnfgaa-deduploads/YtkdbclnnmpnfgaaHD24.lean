/- What Load needs: bytes are used up; a table that gets a producer. -/
import Derived.Test.YtkdbclnnmpnfgaaHD23
namespace Go.Proofs.Ytkdbclnnmpnfgaa
open Go.RowKit Go.Maps
set_option maxRecDepth 100000
set_option linter.unusedSimpArgs false
set_option linter.unusedVariables false

theorem rdZ_pos : ∀ (f i z : Nat) (l : List UInt8), (rdZ f i z l).2.2 = 0 → i + 1 ≤ (rdZ f i z l).2.1
  | 0, _, _, _, h => by simp [rdZ] at h
  | _ + 1, _, _, [], h => by simp [rdZ] at h
  | f + 1, i, z, d :: r, h => by
    unfold rdZ at h ⊢
    split at h
    · simp at h
    · rename_i hc
      rw [if_neg hc]
      split at h
      · rename_i hd
        rw [if_pos hd]; simp
      · rename_i hd
        rw [if_neg hd]
        have := rdZ_pos f (i + 1) _ r h
        omega
theorem readL_pos (l : List UInt8) (h : (readL l).2.2 = 0) : 1 ≤ (readL l).2.1 := by
  unfold readL okI at h ⊢
  split at h
  · rename_i h0
    rw [if_pos h0]
    exact rdZ_pos 10 0 0 l h0
  · rename_i h0
    simp only at h
    exact absurd h h0
theorem num_rest (s : RS) : (numS s).2.rest.length ≤ s.rest.length := by
  unfold numS
  split
  · simp
  · simp [spoiled]
theorem num_used (s : RS) (h : (numS s).1 ≠ 0) : (numS s).2.rest.length + 1 ≤ s.rest.length := by
  unfold numS at h ⊢
  split
  · rename_i h0
    have h1 := readL_pos s.rest h0
    have h2 := (readL_range s.rest).2.1
    simp only [List.length_drop]
    omega
  · rename_i h0
    rw [if_neg h0] at h
    exact absurd rfl h
theorem count_rest (most : Int) (s : RS) : (countS most s).2.rest.length ≤ s.rest.length := by
  unfold countS
  split
  · simp [spoiled]
  · exact num_rest s
theorem rdN_used (s : RS) (h : rightNt (rdN s).1 = true) : (rdN s).2.rest.length + 1 ≤ s.rest.length := by
  have hn := (rightNt_ok.1 h).n
  unfold rdN at hn ⊢
  simp only at hn ⊢
  have h1 := num_rest s
  have h2 := num_rest (numS s).2
  have h3 := num_used (numS (numS s).2).2 (by omega)
  have h4 := num_rest (numS (numS (numS s).2).2).2
  omega
theorem notesS_used : ∀ (c : Nat) (acc : List Nt) (s : RS) (l : List Nt), (notesS c acc s).1 = some l → l.length + (notesS c acc s).2.rest.length ≤ acc.length + s.rest.length
  | 0, acc, s, l, h => by simp [notesS] at h ⊢; rw [h]; omega
  | c + 1, acc, s, l, h => by
    unfold notesS at h ⊢
    split at h
    · rename_i hb
      rw [if_pos hb]
      have h1 := rdN_used s (by simp at hb; exact hb.1)
      have h2 := notesS_used c _ _ l h
      simp only [List.length_append, List.length_singleton] at h2
      omega
    · cases h
theorem notesS_rest : ∀ (c : Nat) (acc : List Nt) (s : RS), (notesS c acc s).2.rest.length ≤ s.rest.length
  | 0, acc, s => by simp [notesS]
  | c + 1, acc, s => by
    have h0 : (rdN s).2.rest.length ≤ s.rest.length := by
      unfold rdN
      have h1 := num_rest s
      have h2 := num_rest (numS s).2
      have h3 := num_rest (numS (numS s).2).2
      have h4 := num_rest (numS (numS (numS s).2).2).2
      simp only
      omega
    unfold notesS
    split
    · have := notesS_rest c (acc ++ [(rdN s).1]) (rdN s).2; omega
    · exact h0
theorem notesR_used (most : Int) (s : RS) : (notesR most s).1.length + (notesR most s).2.rest.length ≤ s.rest.length := by
  have h1 := count_rest most s
  unfold notesR
  simp only
  cases h : (notesS (countS most s).1.toNat [] (countS most s).2).1 with
  | none =>
    have := notesS_rest (countS most s).1.toNat [] (countS most s).2
    simp only [List.length_nil]; omega
  | some l =>
    have := notesS_used _ _ _ _ h
    simp only [List.length_nil] at this
    simp only
    omega

theorem TabM.put {w : World} {S : Nat → Prop} {q b : Nat} {fs : FM} (h : TabM w S q b fs) {pid : Int} (hp : 1 ≤ pid ∧ pid ≤ 1000000000) {v : Value} {l : List Nt} (hn : NL w v l) (hl : LOk l) (hne : l ≠ []) (hsh : ∃ oa n c, v = .slice oa n c)
    (hfr : ∀ k, v.ownBlock = some k → ¬ S k) (hc : cntT (abs fs) + l.length ≤ (tget (abs fs) pid).length + 100000) :
    ∃ w', (Instr.mapUpdate 53 (.map (some b)) (.int .i64 pid) v).run Try.prog w = .ok () w' ∧ TabM w' (fun k => S k ∨ v.ownBlock = some k) q b (fput fs pid ⟨v, l⟩) ∧ w.grownBy w' (some b) := by
  have hR : Rh v = some (.held v, []) := by obtain ⟨oa, n, c, rfl⟩ := hsh; rfl
  have hfl : fs.length ≤ 100000 := by have := h.ok.len; unfold abs at this; simpa using this
  obtain ⟨w', hrun, hown, ht⟩ := h.files.store law3 Try.underlying53 (by unfold maxLen; omega) (keyOf_int_mk Try.underlying3 (wf_of (k := pid) (by unfold I64; omega))) hR
  have hg := ht.grown
  have hmb : ∃ es clock, w.heap[b]? = some (.map es clock) := by obtain ⟨es, clock, e, _⟩ := h.files; exact ⟨es, clock, e⟩
  obtain ⟨es, clock, hmb⟩ := hmb
  have hqb : q ≠ b := fun e => by rw [← e, h.cells] at hmb; cases hmb
  have hkeep : ∀ {u : Value} {m : List Nt}, NL w u m → NL w' u m := fun hN => hN.kept (fun k hk => hg.block k (hN.lt k hk) (fun e => by
    cases e
    obtain ⟨cur, hc⟩ := hN.block b hk
    rw [hmb] at hc; cases hc))
  have hs := hg.size
  refine ⟨w', hrun, ⟨fun k hk => ?_, .inl h.self, (hg.block q (h.below q h.self) (by simpa using hqb)).trans h.cells, ?_, .inl h.mapS, fun p hp => ?_, ?_, ?_⟩, hg⟩
  · rcases hk with hk | hk
    · have := h.below k hk; omega
    · have := hn.lt k hk; omega
  · rw [show (DataW.held v) = (DataW.held (⟨v, l⟩ : NE).sv : DataW Value) from rfl, dmap_put] at hown
    have := tight hown
    rw [dmap_size] at this
    exact this
  · rcases (mem_fput _ _ _ _).1 hp with rfl | ⟨hp, _⟩
    · exact ⟨hkeep hn, fun k hk => .inr hk⟩
    · exact ⟨hkeep (h.owns p hp).1, fun k hk => .inl ((h.owns p hp).2 k hk)⟩
  · exact apart_fput _ _ h.apart (fun p hp _ k hk e => hfr k hk ((h.owns p hp).2 k e))
  · rw [abs_fput]; exact h.ok.put hp hl hne hc
theorem tput_last (T : Tb) (pid : Int) (l : List Nt) (h : ∀ p ∈ T, p.1 < pid) : tput T pid l = T ++ [(pid, l)] := by
  have hf : T.filter (fun p => !(p.1 == pid)) = T := List.filter_eq_self.2 (fun p hp => by have := h p hp; simp; omega)
  unfold tput
  rw [hf]
  clear hf
  induction T with
  | nil => rfl
  | cons y r ih =>
    have := h y (by simp)
    show tins (pid, l) (y :: r) = _
    unfold tins
    rw [if_neg (by simp only; omega), ih (fun p hp => h p (by simp [hp]))]
    rfl
theorem tget_none (T : Tb) (pid : Int) (h : ∀ p ∈ T, p.1 < pid) : tget T pid = [] := by
  by_cases e : tget T pid = []
  · exact e
  · have := h _ (tget_mem e)
    simp only at this; omega

/-- A table that is being read, beside its reader. -/
def LdAt (w wr : World) (rq : Nat) (s : RS) (q : Nat) (T : Tb) : Prop :=
  ∃ S : Nat → Prop, ∃ b fs, TabM wr S q b fs ∧ abs fs = T ∧ (∀ k, S k → w.heap.size ≤ k ∧ k ≠ rq) ∧ Pd wr rq s ∧ w.heap.size ≤ rq ∧ Below w.heap.size w wr
theorem LdAt.read {w wr w' : World} {rq : Nat} {s s' : RS} {q : Nat} {T : Tb} (h : LdAt w wr rq s q T) (h1 : Pd w' rq s') (h2 : wr.grownBy w' (some rq)) : LdAt w w' rq s' q T := by
  obtain ⟨S, b, fs, a1, a2, a3, a4, a5, a6⟩ := h
  exact ⟨S, b, fs, a1.kept (fun k hk => h2.block k (a1.below k hk) (fun e => (a3 k hk).2 (by cases e; rfl))) h2.size, a2, a3, h1, a5, a6.grown h2 a6.size (fun j hj => by cases hj; exact a5)⟩
theorem LdAt.rd {w wr : World} {rq : Nat} {s : RS} {q : Nat} {T : Tb} (h : LdAt w wr rq s q T) : Pd wr rq s := by
  obtain ⟨S, b, fs, a1, a2, a3, a4, a5, a6⟩ := h; exact a4
theorem LdAt.put {w wr w' : World} {rq : Nat} {s s' : RS} {q : Nat} {T : Tb} {v : Value} {l : List Nt} (h : LdAt w wr rq s q T) (hr : RdAt wr w' rq s' v l) {pid : Int} (hp : 1 ≤ pid ∧ pid ≤ 1000000000) (hl : LOk l) (hne : l ≠ []) (hlast : ∀ p ∈ T, p.1 < pid) (hc : cntT T + l.length ≤ 100000) :
    ∃ b, w'.cell? ⟨q, 0, none⟩ = some (.map (some b)) ∧ ∃ w2, (Instr.mapUpdate 53 (.map (some b)) (.int .i64 pid) v).run Try.prog w' = .ok () w2 ∧ LdAt w w2 rq s' q (T ++ [(pid, l)]) := by
  have h' := h.read hr.rd hr.grown
  obtain ⟨S0, b0, fs0, c1, c2, c3, c4, c5, c6⟩ := h
  have hnl := hr.nl
  have hwrr := c6.size
  obtain ⟨oa, cap, hsv, _⟩ := hnl.shape
  have a1 : TabM w' S0 q b0 fs0 := c1.kept (fun k hk => hr.grown.block k (c1.below k hk) (fun e => (c3 k hk).2 (by cases e; rfl))) hr.grown.size
  subst c2
  obtain ⟨w2, hrun, ht, hg⟩ := a1.put hp hnl hl hne ⟨oa, _, cap, hsv⟩ (fun k hk hS => by have h1 := (hr.lt k hk).1; have h2 := c1.below k hS; omega) (by rw [tget_none _ _ hlast]; simpa using hc)
  have hb1 : Below w.heap.size w w' := by
    obtain ⟨_, _, _, _, _, _, _, _, e⟩ := h'; exact e
  have hrqb : rq ≠ b0 := fun e => (c3 b0 c1.mapS).2 e.symm
  refine ⟨b0, a1.c0, w2, hrun, _, b0, _, ht, ?_, fun k hk => ?_, hr.rd.kept (hg.block rq hr.rd.lt (by simpa using hrqb)), c5, hb1.grown hg hb1.size (fun j hj => by cases hj; exact (c3 b0 c1.mapS).1)⟩
  · rw [abs_fput, tput_last _ _ _ hlast]
  · rcases hk with hk | hk
    · exact c3 k hk
    · have h1 := (hr.lt k hk).1
      have h2 := c4.lt
      exact ⟨by omega, by omega⟩
end Go.Proofs.Ytkdbclnnmpnfgaa

