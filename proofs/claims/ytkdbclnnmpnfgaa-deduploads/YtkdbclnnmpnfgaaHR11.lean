/- The program's table and the document's beside one another. -/
import Derived.Test.YtkdbclnnmpnfgaaHR10
import Derived.Test.YtkdbclnnmpnfgaaHR7
import Derived.Test.YtkdbclnnmpnfgaaHR3
import Derived.Test.YtkdbclnnmpnfgaaHD26
import Derived.Test.YtkdbclnnmpnfgaaHD25
import Derived.Test.YtkdbclnnmpnfgaaHD20
namespace Go.Proofs.Ytkdbclnnmpnfgaa
open Go.RowKit Go.Maps
set_option maxRecDepth 100000
set_option linter.unusedSimpArgs false
set_option linter.unusedVariables false

theorem map_snd (p : Int) : ∀ l : List Nt, ((l.map fun x => (p, x)).map (·.2)) = l
  | [] => rfl
  | x :: r => by simp only [List.map_cons, map_snd p r]
theorem of_flat {T : Tb} (h : TOk T) (pid : Int) : (ofM pid (flatT T)).map (·.2) = tget T pid := by rw [ofM_flatT T h.rise, map_snd]
theorem noteM_flat {T : Tb} (h : TOk T) (b : Bat) : noteM (flatT T) b = flatT (noteT T b) := by
  unfold noteM noteT
  rw [of_flat h]
  split
  · rfl
  · split
    · exact insM_flatT b.pid (ntOf b) T h.rise
    · rfl
theorem noteT_cnt {T : Tb} (h : TOk T) (b : Bat) : cntT (noteT T b) ≤ cntT T + 1 := by
  rw [← flatT_length, ← noteM_flat h, ← flatT_length]
  unfold noteM
  split
  · omega
  · split
    · rw [insM_len]; omega
    · omega
theorem flat_mok {T : Tb} (h : TOk T) : MOk (flatT T) := fun m hm => by
  obtain ⟨p, hp, e1, e2⟩ := flatT_mem hm
  obtain ⟨a1, a2, a3⟩ := h.each p hp
  rw [e1] at a1
  exact ⟨⟨by omega, a1.2⟩, a3.all _ e2⟩
theorem flat_keep {T : Tb} (h : TOk T) : sealL (intL (refM none (flatT T) : Int) ++ refB (flatT T) none (flatT T)) = keepB T := by
  obtain ⟨e1, e2⟩ := refKeep T h
  rw [e1, e2]
  rfl

/-- Both tables; the blocks from b0 to b1 are neither's. -/
def PQ (w0 w : World) (q r : Nat) (A U : Tb) (b0 b1 : Nat) : Prop :=
  ∃ (S : Nat → Prop) (v : Value), Tab w S q A ∧ RT w r v (flatT U) ∧ TOk U ∧ ¬ S r ∧ (∀ k, v.ownBlock = some k → ¬ S k) ∧ (∀ k, S k → w0.heap.size ≤ k ∧ ¬ (b0 ≤ k ∧ k < b1)) ∧ (w0.heap.size ≤ r ∧ ¬ (b0 ≤ r ∧ r < b1)) ∧ Below w0.heap.size w0 w ∧ b1 ≤ w.heap.size
def Stay (w w1 : World) (b0 b1 : Nat) : Prop := ∀ k, b0 ≤ k → k < b1 → w1.heap[k]? = w.heap[k]?
theorem PQ.okA {w0 w : World} {q r : Nat} {A U : Tb} {b0 b1 : Nat} (h : PQ w0 w q r A U b0 b1) : TOk A := by obtain ⟨S, v, h1, _⟩ := h; exact h1.ok
theorem PQ.okU {w0 w : World} {q r : Nat} {A U : Tb} {b0 b1 : Nat} (h : PQ w0 w q r A U b0 b1) : TOk U := by obtain ⟨S, v, _, _, h1, _⟩ := h; exact h1
theorem PQ.below {w0 w : World} {q r : Nat} {A U : Tb} {b0 b1 : Nat} (h : PQ w0 w q r A U b0 b1) : Below w0.heap.size w0 w := by obtain ⟨S, v, _, _, _, _, _, _, _, h1, _⟩ := h; exact h1
theorem PQ.under {w0 w w1 : World} {q r : Nat} {A U : Tb} {b0 b1 : Nat} (h : PQ w0 w q r A U b0 b1) (hb : Below w.heap.size w w1) : PQ w0 w1 q r A U b0 b1 := by
  obtain ⟨S, v, h1, h2, h3, h4, h5, h6, h7, h8, h9⟩ := h
  exact ⟨S, v, h1.under hb, h2.under hb, h3, h4, h5, h6, h7, h8.trans (hb.mono h8.size), Nat.le_trans h9 hb.size⟩
theorem PQ.forget {w0 w : World} {q r : Nat} {A U : Tb} {b0 b1 : Nat} (h : PQ w0 w q r A U b0 b1) : PQ w0 w q r A U 0 0 := by
  obtain ⟨S, v, h1, h2, h3, h4, h5, h6, h7, h8, h9⟩ := h
  exact ⟨S, v, h1, h2, h3, h4, h5, fun k hk => ⟨(h6 k hk).1, by omega⟩, ⟨h7.1, by omega⟩, h8, Nat.zero_le _⟩
theorem PQ.box {w0 w w1 : World} {q r : Nat} {A U : Tb} {c0 c1 : Nat} (h : PQ w0 w q r A U c0 c1) (hb : Below w.heap.size w w1) : PQ w0 w1 q r A U w.heap.size w1.heap.size := by
  obtain ⟨S, v, h1, h2, h3, h4, h5, h6, h7, h8, h9⟩ := h
  exact ⟨S, v, h1.under hb, h2.under hb, h3, h4, h5, fun k hk => ⟨(h6 k hk).1, by have := h1.below k hk; omega⟩, ⟨h7.1, by have := h2.lt; omega⟩, h8.trans (hb.mono h8.size), Nat.le_refl _⟩
theorem RT.kept {w w1 : World} {r : Nat} {v : Value} {ms : List Mk} (h : RT w r v ms) (h1 : w1.heap[r]? = w.heap[r]?) (h2 : ∀ k, v.ownBlock = some k → w1.heap[k]? = w.heap[k]?) : RT w1 r v ms := ⟨h1.trans h.cells, h.row.kept h2, h.few⟩
theorem PQ.prog {w0 w : World} {q r : Nat} {A U : Tb} {b0 b1 : Nat} (h : PQ w0 w q r A U b0 b1) {A' : Tb} {C : (Ending → World → Prop) → Prop} (hm : ∀ P Q : Ending → World → Prop, (∀ e w', P e w' → Q e w') → C P → C Q)
    (hc : ∀ S, Tab w S q A → C fun e w' => e = .returned (.tuple #[]) ∧ TAfter S w w' q A') : C fun e w' => e = .returned (.tuple #[]) ∧ PQ w0 w' q r A' U b0 b1 ∧ Stay w w' b0 b1 := by
  obtain ⟨S, v, h1, h2, h3, h4, h5, h6, h7, h8, h9⟩ := h
  refine hm _ _ (fun e w' ⟨he, S', a1, a2, a3, a4⟩ => ⟨he, ⟨S', v, a1, h2.kept (a4.block r h2.lt h4) (fun k hk => a4.block k (h2.row.lt k hk).2 (h5 k hk)), h3, fun hr => ?_, fun k hk hS => ?_, fun k hk => ?_, h7, h8.trans (a4.below h8.size (fun k hk => (h6 k hk).1)), Nat.le_trans h9 a4.size⟩, fun k k1 k2 => a4.block k (by omega) (fun hS => (h6 k hS).2 ⟨k1, k2⟩)⟩) (hc S h1)
  · rcases a2 r hr with h | h
    · exact h4 h
    · have := h2.lt; omega
  · rcases a2 k hS with h | h
    · exact h5 k hk h
    · have := (h2.row.lt k hk).2; omega
  · rcases a2 k hk with h | h
    · exact h6 k h
    · have := h8.size; exact ⟨by omega, by omega⟩
theorem PQ.doc {w0 w : World} {q r : Nat} {A U : Tb} {b0 b1 : Nat} (h : PQ w0 w q r A U b0 b1) {U' : Tb} (hU : TOk U') {C : (Ending → World → Prop) → Prop} (hm : ∀ P Q : Ending → World → Prop, (∀ e w', P e w' → Q e w') → C P → C Q)
    (hc : ∀ v, RT w r v (flatT U) → C fun e w' => e = .returned (.tuple #[]) ∧ RF w w' r v (flatT U')) : C fun e w' => e = .returned (.tuple #[]) ∧ PQ w0 w' q r A U' b0 b1 ∧ Stay w w' b0 b1 := by
  obtain ⟨S, v, h1, h2, h3, h4, h5, h6, h7, h8, h9⟩ := h
  refine hm _ _ (fun e w' ⟨he, v', a1, a2, a4⟩ => ⟨he, ⟨S, v', h1.beside a4 (fun k hk e => h4 (e ▸ hk)), a1, hU, h4, fun k hk hS => ?_, h6, h7, h8.trans (a4.below h8.size (fun k hk => by rw [hk]; exact h7.1)), Nat.le_trans h9 a4.size⟩, fun k k1 k2 => a4.block k (by omega) (fun e => h7.2 (e ▸ ⟨k1, k2⟩))⟩) (hc v h2)
  rcases a2 k hk with h | h
  · have := h1.below k hS; omega
  · exact h5 k h hS
theorem PQ.cutP {w0 w : World} {q r : Nat} {A U : Tb} {b0 b1 : Nat} (h : PQ w0 w q r A U b0 b1) (N : Int) : Calls Try.prog 16 #[.pointer (some ⟨q, 0, none⟩), .int .i64 N] w fun e w' => e = .returned (.tuple #[]) ∧ PQ w0 w' q r (turnT (cutN N) A) U b0 b1 ∧ Stay w w' b0 b1 :=
  h.prog (C := fun P => Calls Try.prog 16 #[.pointer (some ⟨q, 0, none⟩), .int .i64 N] w P) (fun P Q h c => c.mono h) (fun S hS => cut_any hS N)
theorem PQ.delP {w0 w : World} {q r : Nat} {A U : Tb} {b0 b1 : Nat} (h : PQ w0 w q r A U b0 b1) (N : Int) : Calls Try.prog 18 #[.pointer (some ⟨q, 0, none⟩), .int .i64 N] w fun e w' => e = .returned (.tuple #[]) ∧ PQ w0 w' q r (turnT (shortL N) A) U b0 b1 ∧ Stay w w' b0 b1 :=
  h.prog (C := fun P => Calls Try.prog 18 #[.pointer (some ⟨q, 0, none⟩), .int .i64 N] w P) (fun P Q h c => c.mono h) (fun S hS => delete_any hS N)
theorem PQ.cutR {w0 w : World} {q r : Nat} {A U : Tb} {b0 b1 : Nat} (h : PQ w0 w q r A U b0 b1) (N : Int) (hU : TOk (turnT (cutN N) U)) : Calls Try.prog 17 #[.pointer (some ⟨r, 0, none⟩), .int .i64 N] w fun e w' => e = .returned (.tuple #[]) ∧ PQ w0 w' q r A (turnT (cutN N) U) b0 b1 ∧ Stay w w' b0 b1 :=
  h.doc hU (C := fun P => Calls Try.prog 17 #[.pointer (some ⟨r, 0, none⟩), .int .i64 N] w P) (fun P Q h c => c.mono h) (fun v hv => (rcut_any hv N).mono fun e w' ⟨a, b⟩ => ⟨a, by rw [cutM_flatT] at b; exact b.rf⟩)
theorem PQ.delR {w0 w : World} {q r : Nat} {A U : Tb} {b0 b1 : Nat} (h : PQ w0 w q r A U b0 b1) (N : Int) (hU : TOk (turnT (shortL N) U)) : Calls Try.prog 19 #[.pointer (some ⟨r, 0, none⟩), .int .i64 N] w fun e w' => e = .returned (.tuple #[]) ∧ PQ w0 w' q r A (turnT (shortL N) U) b0 b1 ∧ Stay w w' b0 b1 :=
  h.doc hU (C := fun P => Calls Try.prog 19 #[.pointer (some ⟨r, 0, none⟩), .int .i64 N] w P) (fun P Q h c => c.mono h) (fun v hv => (rdel_any hv N).mono fun e w' ⟨a, b⟩ => ⟨a, by rw [delM_flatT N U h.okU.rise (fun p hp => (h.okU.each p hp).2.2)] at b; exact b.rf⟩)
theorem PQ.noteP {w0 w : World} {q r : Nat} {A U : Tb} {b0 b1 : Nat} (h : PQ w0 w q r A U b0 b1) (pid ep seq base : Int) (n g : Nat) (hp : I64 pid) (he : I64 ep) (hs : I64 seq) (hb : I64 base) (hr : Recs w (.slice (some ⟨g, 0, none⟩) n n) (zrecs n)) (hc : cntT A < 100000) :
    Calls Try.prog 12 #[.pointer (some ⟨q, 0, none⟩), .agg #[.int .i64 base, .int .i64 0, .int .i64 pid, .int .i64 ep, .int .i64 seq, .slice (some ⟨g, 0, none⟩) n n]] w fun e w' => e = .returned (.tuple #[]) ∧ PQ w0 w' q r (noteT A (batOf pid ep seq base n)) U b0 b1 ∧ Stay w w' b0 b1 :=
  h.prog (C := fun P => Calls Try.prog 12 #[.pointer (some ⟨q, 0, none⟩), .agg #[.int .i64 base, .int .i64 0, .int .i64 pid, .int .i64 ep, .int .i64 seq, .slice (some ⟨g, 0, none⟩) n n]] w P) (fun P Q h c => c.mono h) (fun S hS => by
    have := note_any hS (batOf pid ep seq base n) (some ⟨g, 0, none⟩) n (by show Recs w (.slice (some ⟨g, 0, none⟩) (zrecs n).length n) (zrecs n); rw [zrecs_length]; exact hr) ⟨hb, by unfold I64 batOf; simp, hp, he, hs⟩ hc
    have e : (batOf pid ep seq base n).recs.length = n := zrecs_length n
    rw [e] at this
    exact this)
theorem PQ.noteR {w0 w : World} {q r : Nat} {A U : Tb} {b0 b1 : Nat} (h : PQ w0 w q r A U b0 b1) (pid ep seq base : Int) (n g : Nat) (hp : I64 pid) (he : I64 ep) (hs : I64 seq) (hb : I64 base) (hr : Recs w (.slice (some ⟨g, 0, none⟩) n n) (zrecs n)) (hc : cntT U < 100000) (hU : TOk (noteT U (batOf pid ep seq base n))) :
    Calls Try.prog 13 #[.pointer (some ⟨r, 0, none⟩), .agg #[.int .i64 base, .int .i64 0, .int .i64 pid, .int .i64 ep, .int .i64 seq, .slice (some ⟨g, 0, none⟩) n n]] w fun e w' => e = .returned (.tuple #[]) ∧ PQ w0 w' q r A (noteT U (batOf pid ep seq base n)) b0 b1 ∧ Stay w w' b0 b1 :=
  h.doc hU (C := fun P => Calls Try.prog 13 #[.pointer (some ⟨r, 0, none⟩), .agg #[.int .i64 base, .int .i64 0, .int .i64 pid, .int .i64 ep, .int .i64 seq, .slice (some ⟨g, 0, none⟩) n n]] w P) (fun P Q h c => c.mono h) (fun v hv => by
    have := rnote_any hv (batOf pid ep seq base n) (by rw [of_flat h.okU]; exact (h.okU.get _).1) (some ⟨g, 0, none⟩) n (by show Recs w (.slice (some ⟨g, 0, none⟩) (zrecs n).length n) (zrecs n); rw [zrecs_length]; exact hr) ⟨hb, by unfold I64 batOf; simp, hp, he, hs⟩ (by rw [flatT_length]; exact hc)
    have e : (batOf pid ep seq base n).recs.length = n := zrecs_length n
    rw [e] at this
    rw [noteM_flat h.okU] at this
    exact this)
theorem PQ.askP {w0 w : World} {q r : Nat} {A U : Tb} {b0 b1 : Nat} (h : PQ w0 w q r A U b0 b1) (pid ep seq n : Int) (hp : I64 pid) (he : I64 ep) (hs : I64 seq) (hn : I64 n) :
    Calls Try.prog 14 #[.pointer (some ⟨q, 0, none⟩), .int .i64 pid, .int .i64 ep, .int .i64 seq, .int .i64 n] w fun e w' =>
      e = .returned (.tuple #[.int .i64 (askL (tget A pid) pid ep seq n).1, .int .i64 (askL (tget A pid) pid ep seq n).2]) ∧ Below w.heap.size w w' := by
  obtain ⟨S, v, h1, _⟩ := h
  exact ask_any h1 pid ep seq n hp he hs hn
theorem PQ.askR {w0 w : World} {q r : Nat} {A U : Tb} {b0 b1 : Nat} (h : PQ w0 w q r A U b0 b1) (pid ep seq n : Int) (hp : I64 pid) (he : I64 ep) (hs : I64 seq) (hn : I64 n) :
    Calls Try.prog 15 #[.pointer (some ⟨r, 0, none⟩), .int .i64 pid, .int .i64 ep, .int .i64 seq, .int .i64 n] w fun e w' =>
      e = .returned (.tuple #[.int .i64 (askL (tget U pid) pid ep seq n).1, .int .i64 (askL (tget U pid) pid ep seq n).2]) ∧ Below w.heap.size w w' := by
  obtain ⟨S, v, _, h2, h3, _⟩ := h
  have := rask_any h2 pid ep seq n (by rw [of_flat h3]; exact (h3.get _).1) hp he hs hn
  rw [of_flat h3] at this
  exact this
theorem PQ.keepP {w0 w : World} {q r : Nat} {A U : Tb} {b0 b1 : Nat} (h : PQ w0 w q r A U b0 b1) :
    Calls Try.prog 21 #[.pointer (some ⟨q, 0, none⟩)] w fun e w' => e = .returned (.string (strOf (keepB A))) ∧ Below w.heap.size w w' := by
  obtain ⟨S, v, h1, _⟩ := h
  exact keep_any h1
theorem PQ.keepR {w0 w : World} {q r : Nat} {A U : Tb} {b0 b1 : Nat} (h : PQ w0 w q r A U b0 b1) :
    Calls Try.prog 22 #[.pointer (some ⟨r, 0, none⟩)] w fun e w' => e = .returned (.string (strOf (keepB U))) ∧ Below w.heap.size w w' := by
  obtain ⟨S, v, _, h2, h3, _⟩ := h
  have := rkeep_any h2 (flat_mok h3)
  rw [flat_keep h3] at this
  exact this
theorem PQ.load {w0 w : World} {q r : Nat} {A U : Tb} {b0 b1 : Nat} (h : PQ w0 w q r A U b0 b1) (hl : (keepB A).length ≤ 100000) :
    Calls Try.prog 20 #[.string (strOf (keepB A))] w fun e w' => ∃ q', e = .returned (.tuple #[.pointer (some ⟨q', 0, none⟩), .int .i64 0]) ∧ PQ w0 w' q' r A U b0 b1 ∧ Below w.heap.size w w' := by
  obtain ⟨S, v, h1, h2, h3, h4, h5, h6, h7, h8, h9⟩ := h
  refine (load_any (keepB A) w hl).mono fun e w' hp => ?_
  rw [load_back A h1.ok] at hp
  obtain ⟨hb, ⟨_, q', S', e1, ht, hS⟩ | ⟨hne, _⟩⟩ := hp
  · exact ⟨q', e1, ⟨S', v, ht, h2.under hb, h3, fun hr => by have := hS r hr; have := h2.lt; omega, fun k hk hs => by have := hS k hs; have := (h2.row.lt k hk).2; omega, fun k hk => by have := hS k hk; have := h8.size; exact ⟨by omega, by omega⟩, h7, h8.trans (hb.mono h8.size), Nat.le_trans h9 hb.size⟩, hb⟩
  · exact absurd rfl hne
end Go.Proofs.Ytkdbclnnmpnfgaa

