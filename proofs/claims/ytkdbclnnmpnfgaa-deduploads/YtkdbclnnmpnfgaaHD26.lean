/- Two tables beside one another, one of them told of what is deleted. -/
import Derived.Test.YtkdbclnnmpnfgaaHD17
import Derived.Test.YtkdbclnnmpnfgaaHD19
namespace Go.Proofs.Ytkdbclnnmpnfgaa
open Go.RowKit Go.Maps
set_option linter.unusedSimpArgs false
set_option linter.unusedVariables false

structure DelI (A B : Tb) (start next : Int) (i : Nat) : Prop where
  each : ∀ pid, Dr (tget B pid) (tget A pid) start
  offs : ∀ pid, ∀ x ∈ tget B pid, x.off < next
  b0 : 0 ≤ start
  b1 : start ≤ next
  b2 : next ≤ 3 * (i : Int)
  ca : cntT A ≤ i
  cb : cntT B ≤ i
theorem DelI.start : DelI [] [] 0 0 0 := ⟨fun pid => Dr.refl [] 0, (fun pid x hx => by cases hx), by omega, by omega, by omega, by simp [cntT], by simp [cntT]⟩
theorem DelI.more {A B start next i} (h : DelI A B start next i) : DelI A B start next (i + 1) :=
  ⟨h.each, h.offs, h.b0, h.b1, by have := h.b2; omega, by have := h.ca; omega, by have := h.cb; omega⟩
theorem cnt_cut {T : Tb} (hT : TOk T) (N : Int) : cntT (turnT (cutN N) T) ≤ cntT T := cntT_turn _ (fun l hl => (cut_ok N l hl).2) T (fun p hp => (hT.each p hp).2.2)
theorem cnt_short {T : Tb} (hT : TOk T) (N : Int) : cntT (turnT (shortL N) T) ≤ cntT T := cntT_turn _ (fun l hl => (short_ok N l hl).2) T (fun p hp => (hT.each p hp).2.2)
theorem DelI.cut {A B start next i} (h : DelI A B start next i) (hA : TOk A) (hB : TOk B) {N : Int} (h1 : start ≤ N) (h2 : N ≤ next) : DelI (turnT (cutN N) A) (turnT (cutN N) B) start N (i + 1) := by
  have := h.ca; have := h.cb; have := h.b2
  have := cnt_cut hA N; have := cnt_cut hB N
  refine ⟨fun pid => ?_, fun pid x hx => ?_, h.b0, h1, by omega, by omega, by omega⟩
  · rw [tget_turn A hA _ rfl (cut_ok N), tget_turn B hB _ rfl (cut_ok N)]
    exact (h.each pid).cut (hB.get pid).1 h1
  · rw [tget_turn B hB _ rfl (cut_ok N)] at hx
    have := (List.mem_filter.1 hx).2
    simpa using this
theorem DelI.del {A B start next i} (h : DelI A B start next i) (hA : TOk A) (hB : TOk B) {N : Int} (h1 : start ≤ N) (h2 : N ≤ next) : DelI (turnT (shortL N) A) B N next (i + 1) := by
  have := h.ca; have := h.cb; have := h.b2; have := h.b0
  have := cnt_short hA N
  refine ⟨fun pid => ?_, h.offs, by omega, h2, by omega, by omega, by omega⟩
  rw [tget_turn A hA _ rfl (short_ok N)]
  exact (h.each pid).del (hB.get pid).1 h1
theorem cnt_put (T : Tb) (pid : Int) (x : Nt) : cntT (tput T pid (tget T pid ++ [x])) ≤ cntT T + 1 := by
  unfold tput
  rw [cntT_tins]
  have := cntT_del pid T
  simp only [List.length_append, List.length_singleton]
  omega
theorem DelI.new {A B start next i} (h : DelI A B start next i) (hA : TOk A) (hB : TOk B) (hi : i ≤ 1000) {b : Lg} (hb : SmallB b next) (he : (findL (tget B b.pid) b.ep b.seq b.n).2 = 0) (hat : (findL (tget B b.pid) b.ep b.seq b.n).1 < 0) :
    DelI (noteT A (batOf b.pid b.ep b.seq b.base b.n)) (noteT B (batOf b.pid b.ep b.seq b.base b.n)) start (next + b.n) (i + 1) := by
  have hn : 0 ≤ next ∧ next ≤ 100000 := by have := h.b0; have := h.b1; have := h.b2; omega
  have hok := hb.ok hn
  have hfl := new_follows b hok _ (hB.get b.pid).1 he hat (fun x hx => by rw [hb.base]; exact h.offs b.pid x hx)
  have hfA : folB (tget A b.pid) b.nt = true := by rw [(h.each b.pid).follows]; exact hfl
  have hp := hb.pid
  have hnn := hb.n
  rw [noteT_new (hb.right hn) (by omega) hfA, noteT_new (hb.right hn) (by omega) hfl]
  have := h.ca; have := h.cb; have := h.b2; have := h.b1
  have := cnt_put A b.pid b.nt; have := cnt_put B b.pid b.nt
  refine ⟨fun pid => ?_, fun pid x hx => ?_, h.b0, by omega, by omega, by omega, by omega⟩
  · rw [tget_put A hA.rise, tget_put B hB.rise]
    by_cases e : pid = b.pid
    · rw [if_pos e, if_pos e]
      refine (h.each b.pid).snoc ?_
      simp only [Lg.nt]
      rw [hb.base]; exact h.b1
    · rw [if_neg e, if_neg e]
      exact h.each pid
  · rw [tget_put B hB.rise] at hx
    by_cases e : pid = b.pid
    · rw [if_pos e] at hx
      rcases List.mem_append.1 hx with hx | hx
      · have := h.offs _ x hx; omega
      · simp at hx; subst hx
        simp only [Lg.nt]; rw [hb.base]; omega
    · rw [if_neg e] at hx
      have := h.offs _ x hx; omega

/- A table with fewer notes is shorter, written. -/
theorem digs_mono : ∀ (f z y : Nat), z ≤ y → (digs f z).length ≤ (digs f y).length
  | 0, z, y, h => by simp [digs]
  | f + 1, z, y, h => by
    unfold digs
    by_cases hz : z < 128
    · rw [if_pos hz]
      split
      · simp
      · simp
    · rw [if_neg hz, if_neg (by omega)]
      have := digs_mono f (z / 128) (y / 128) (Nat.div_le_div_right h)
      simp only [List.length_cons]; omega
theorem intL_mono (a b : Nat) (h : a ≤ b) : (intL (a : Int)).length ≤ (intL (b : Int)).length := by
  unfold intL
  refine digs_mono 9 _ _ ?_
  unfold zz
  rw [if_neg (by omega), if_neg (by omega)]
  omega
theorem notesB_drop (l : List Nt) (d : Nat) : (notesB (l.drop d)).length ≤ (notesB l).length := by
  conv => rhs; rw [← List.take_append_drop d l]
  rw [notesB_append, List.length_append]
  omega
theorem tab_le (g : Int × List Nt → List Nt) (hg : ∀ p, ∃ d, g p = p.2.drop d) : ∀ T : Tb, (tabB (T.map fun p => (p.1, g p))).length ≤ (tabB T).length
  | [] => by simp [tabB]
  | p :: r => by
    have ih := tab_le g hg r
    obtain ⟨d, hd⟩ := hg p
    have h1 := notesB_drop p.2 d
    have h2 := intL_mono (p.2.drop d).length p.2.length (by rw [List.length_drop]; omega)
    simp only [List.map_cons, tabB, prodB, intsL, List.length_append, List.append_nil, hd]
    omega
theorem keep_le {A B : Tb} {start : Int} (hA : TOk A) (hB : TOk B) (h : ∀ pid, Dr (tget B pid) (tget A pid) start) : (keepB A).length ≤ (keepB B).length := by
  classical
  have hd : ∀ p : Int × List Nt, ∃ d, (if p.2 = tget B p.1 then tget A p.1 else p.2) = p.2.drop d := fun p => by
    split
    · rename_i e
      obtain ⟨a, d, _, e2⟩ := h p.1
      exact ⟨d, by rw [e2, e]⟩
    · exact ⟨0, rfl⟩
  have e : A = B.map (fun p => (p.1, if p.2 = tget B p.1 then tget A p.1 else p.2)) := by
    refine rise_ext _ _ hA.rise ?_ (fun x => ?_)
    · rw [List.pairwise_map]; exact hB.rise.imp fun h => h
    · rw [List.mem_map]
      constructor
      · intro hx
        have h1 := tget_of_mem hA.rise hx
        have h2 := (hA.each x hx).2.1
        obtain ⟨a, d, _, e2⟩ := h x.1
        have h3 : tget B x.1 ≠ [] := fun e => by rw [e] at e2; rw [h1] at e2; simp at e2; exact h2 e2
        exact ⟨(x.1, tget B x.1), tget_mem h3, by simp [h1]⟩
      · rintro ⟨p, hp, rfl⟩
        have h1 := tget_of_mem hB.rise hp
        have h2 := (hB.each p hp).2.1
        rw [if_pos h1.symm]
        obtain ⟨a, d, hd, e2⟩ := h p.1
        have h3 : tget A p.1 ≠ [] := fun e => by
          rw [e2, h1] at e
          have := hd.lt (by rw [h1]; exact h2)
          rw [h1] at this
          have h5 : (p.2.drop d).length = 0 := by rw [e]; rfl
          rw [List.length_drop] at h5
          omega
        exact tget_mem h3
  have hlen : A.length = B.length := by rw [e]; simp
  have ht := tab_le (fun p => if p.2 = tget B p.1 then tget A p.1 else p.2) hd B
  rw [← e] at ht
  unfold keepB sealL
  have h4 : ∀ l, (fourL (crcL l)).length = 4 := fun l => rfl
  simp only [List.length_append, h4, hlen]
  omega

/-- Two tables of a call's own. -/
def DM (w0 w : World) (qa : Nat) (A : Tb) (qb : Nat) (B : Tb) : Prop :=
  ∃ Sa Sb : Nat → Prop, Tab w Sa qa A ∧ Tab w Sb qb B ∧ (∀ k, Sa k → w0.heap.size ≤ k) ∧ (∀ k, Sb k → w0.heap.size ≤ k) ∧ (∀ k, Sa k → ¬ Sb k) ∧ Below w0.heap.size w0 w
theorem DM.below {w0 w : World} {qa A qb B} (h : DM w0 w qa A qb B) : Below w0.heap.size w0 w := by obtain ⟨_, _, _, _, _, _, _, h⟩ := h; exact h
theorem DM.okA {w0 w : World} {qa A qb B} (h : DM w0 w qa A qb B) : TOk A := by obtain ⟨_, _, h, _⟩ := h; exact h.ok
theorem DM.okB {w0 w : World} {qa A qb B} (h : DM w0 w qa A qb B) : TOk B := by obtain ⟨_, _, _, h, _⟩ := h; exact h.ok
theorem DM.swap {w0 w : World} {qa A qb B} (h : DM w0 w qa A qb B) : DM w0 w qb B qa A := by
  obtain ⟨Sa, Sb, h1, h2, h3, h4, h5, h6⟩ := h
  exact ⟨Sb, Sa, h2, h1, h4, h3, fun k hb ha => h5 k ha hb, h6⟩
theorem DM.under {w0 w w1 : World} {qa A qb B} (h : DM w0 w qa A qb B) (hb : Below w.heap.size w w1) : DM w0 w1 qa A qb B := by
  obtain ⟨Sa, Sb, h1, h2, h3, h4, h5, h6⟩ := h
  exact ⟨Sa, Sb, h1.under hb, h2.under hb, h3, h4, h5, h6.trans (hb.mono h6.size)⟩
theorem DM.after {w0 w w1 : World} {qa qb : Nat} {A' B : Tb} {Sa Sb : Nat → Prop} (h2 : Tab w Sb qb B) (h3 : ∀ k, Sa k → w0.heap.size ≤ k) (h4 : ∀ k, Sb k → w0.heap.size ≤ k) (h5 : ∀ k, Sa k → ¬ Sb k) (h6 : Below w0.heap.size w0 w) (ha : TAfter Sa w w1 qa A') : DM w0 w1 qa A' qb B := by
  obtain ⟨S', a1, a2, a3, a4⟩ := ha
  refine ⟨S', Sb, a1, h2.beside a4 (fun k hb ha => h5 k ha hb), fun k hk => ?_, h4, fun k hk hb => ?_, h6.trans (a4.below h6.size h3)⟩
  · rcases a2 k hk with h | h
    · exact h3 k h
    · have := h6.size; omega
  · rcases a2 k hk with h | h
    · exact h5 k h hb
    · have := h2.below k hb; omega
theorem DM.ask {w0 w : World} {qa A qb B} (h : DM w0 w qa A qb B) (pid ep seq n : Int) (hp : I64 pid) (he : I64 ep) (hs : I64 seq) (hn : I64 n) :
    Calls Try.prog 14 #[.pointer (some ⟨qa, 0, none⟩), .int .i64 pid, .int .i64 ep, .int .i64 seq, .int .i64 n] w fun e w' =>
      e = .returned (.tuple #[.int .i64 (askL (tget A pid) pid ep seq n).1, .int .i64 (askL (tget A pid) pid ep seq n).2]) ∧ Below w.heap.size w w' := by
  obtain ⟨Sa, Sb, h1, _⟩ := h
  exact ask_any h1 pid ep seq n hp he hs hn
theorem DM.cut {w0 w : World} {qa A qb B} (h : DM w0 w qa A qb B) (N : Int) : Calls Try.prog 16 #[.pointer (some ⟨qa, 0, none⟩), .int .i64 N] w fun e w' => e = .returned (.tuple #[]) ∧ DM w0 w' qa (turnT (cutN N) A) qb B := by
  obtain ⟨Sa, Sb, h1, h2, h3, h4, h5, h6⟩ := h
  exact (cut_any h1 N).mono fun e w' ⟨a, b⟩ => ⟨a, DM.after h2 h3 h4 h5 h6 b⟩
theorem DM.del {w0 w : World} {qa A qb B} (h : DM w0 w qa A qb B) (N : Int) : Calls Try.prog 18 #[.pointer (some ⟨qa, 0, none⟩), .int .i64 N] w fun e w' => e = .returned (.tuple #[]) ∧ DM w0 w' qa (turnT (shortL N) A) qb B := by
  obtain ⟨Sa, Sb, h1, h2, h3, h4, h5, h6⟩ := h
  exact (delete_any h1 N).mono fun e w' ⟨a, b⟩ => ⟨a, DM.after h2 h3 h4 h5 h6 b⟩
/-- .. and a block that is neither's. -/
def DX (w0 w : World) (qa : Nat) (A : Tb) (qb : Nat) (B : Tb) (bx : Nat) (O : Obj) : Prop :=
  ∃ Sa Sb : Nat → Prop, Tab w Sa qa A ∧ Tab w Sb qb B ∧ (∀ k, Sa k → w0.heap.size ≤ k) ∧ (∀ k, Sb k → w0.heap.size ≤ k) ∧ (∀ k, Sa k → ¬ Sb k) ∧ Below w0.heap.size w0 w ∧ ¬ Sa bx ∧ ¬ Sb bx ∧ w.heap[bx]? = some O
theorem DX.dm {w0 w : World} {qa A qb B bx O} (h : DX w0 w qa A qb B bx O) : DM w0 w qa A qb B := by
  obtain ⟨Sa, Sb, h1, h2, h3, h4, h5, h6, _⟩ := h
  exact ⟨Sa, Sb, h1, h2, h3, h4, h5, h6⟩
theorem DX.box {w0 w : World} {qa A qb B bx O} (h : DX w0 w qa A qb B bx O) : w.heap[bx]? = some O := by
  obtain ⟨Sa, Sb, h1, h2, h3, h4, h5, h6, _, _, h⟩ := h
  exact h
theorem DX.swap {w0 w : World} {qa A qb B bx O} (h : DX w0 w qa A qb B bx O) : DX w0 w qb B qa A bx O := by
  obtain ⟨Sa, Sb, h1, h2, h3, h4, h5, h6, h7, h8, h9⟩ := h
  exact ⟨Sb, Sa, h2, h1, h4, h3, fun k hb ha => h5 k ha hb, h6, h8, h7, h9⟩
theorem DM.laid {w0 w : World} {qa A qb B} (h : DM w0 w qa A qb B) (O : Obj) : DX w0 (w.alloc O) qa A qb B w.heap.size O := by
  obtain ⟨Sa, Sb, h1, h2, h3, h4, h5, h6⟩ := h
  have hb : Below w.heap.size w (w.alloc O) := (Below.refl _ _).alloc (Nat.le_refl _) _
  exact ⟨Sa, Sb, h1.under hb, h2.under hb, h3, h4, h5, h6.trans (hb.mono h6.size), fun hk => by have := h1.below _ hk; omega, fun hk => by have := h2.below _ hk; omega, heap_alloc_new _ _⟩
theorem lt_of_box {w : World} {bx : Nat} {O : Obj} (h : w.heap[bx]? = some O) : bx < w.heap.size := (Array.getElem?_eq_some_iff.1 h).1
theorem DX.under {w0 w w1 : World} {qa A qb B bx O} (h : DX w0 w qa A qb B bx O) (hb : Below w.heap.size w w1) : DX w0 w1 qa A qb B bx O := by
  obtain ⟨Sa, Sb, h1, h2, h3, h4, h5, h6, h7, h8, h9⟩ := h
  exact ⟨Sa, Sb, h1.under hb, h2.under hb, h3, h4, h5, h6.trans (hb.mono h6.size), h7, h8, (hb.block bx (lt_of_box h9)).trans h9⟩
theorem DX.note {w0 w : World} {qa A qb B bx O} (h : DX w0 w qa A qb B bx O) (pid ep seq base : Int) (n g : Nat) (hp : I64 pid) (he : I64 ep) (hs : I64 seq) (hb : I64 base) (hr : Recs w (.slice (some ⟨g, 0, none⟩) n n) (zrecs n)) (hc : cntT A < 100000) :
    Calls Try.prog 12 #[.pointer (some ⟨qa, 0, none⟩), .agg #[.int .i64 base, .int .i64 0, .int .i64 pid, .int .i64 ep, .int .i64 seq, .slice (some ⟨g, 0, none⟩) n n]] w fun e w' => e = .returned (.tuple #[]) ∧ DX w0 w' qa (noteT A (batOf pid ep seq base n)) qb B bx O := by
  obtain ⟨Sa, Sb, h1, h2, h3, h4, h5, h6, h7, h8, h9⟩ := h
  have := note_any h1 (batOf pid ep seq base n) (some ⟨g, 0, none⟩) n (by show Recs w (.slice (some ⟨g, 0, none⟩) (zrecs n).length n) (zrecs n); rw [zrecs_length]; exact hr) ⟨hb, by unfold I64 batOf; simp, hp, he, hs⟩ hc
  have e : (batOf pid ep seq base n).recs.length = n := zrecs_length n
  rw [e] at this
  refine this.mono fun e w' ⟨a, b⟩ => ⟨a, ?_⟩
  obtain ⟨S', a1, a2, a3, a4⟩ := b
  refine ⟨S', Sb, a1, h2.beside a4 (fun k hb ha => h5 k ha hb), fun k hk => ?_, h4, fun k hk hb => ?_, h6.trans (a4.below h6.size h3), fun hk => ?_, h8, (a4.block bx (lt_of_box h9) h7).trans h9⟩
  · rcases a2 k hk with h | h
    · exact h3 k h
    · have := h6.size; omega
  · rcases a2 k hk with h | h
    · exact h5 k h hb
    · have := h2.below k hb; omega
  · rcases a2 bx hk with h | h
    · exact h7 h
    · have := lt_of_box h9; omega
theorem dm_new (w0 w : World) (hb : Below w0.heap.size w0 w) : Calls Try.prog 8 #[] w fun e w' => ∃ (q : Nat) (S : Nat → Prop), e = .returned (.pointer (some ⟨q, 0, none⟩)) ∧ Tab w' S q [] ∧ (∀ k, S k → w.heap.size ≤ k) ∧ Below w.heap.size w w' := new_any w
end Go.Proofs.Ytkdbclnnmpnfgaa

