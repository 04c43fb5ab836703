/- A log and a table beside one another: what the log's calls make of both. -/
import Derived.Test.YtkdbclnnmpnfgaaHD16
import Derived.Test.YtkdbclnnmpnfgaaH13
namespace Go.Proofs.Ytkdbclnnmpnfgaa
open Go.RowKit Go.Maps
set_option linter.unusedSimpArgs false
set_option linter.unusedVariables false

structure OnceI (L : List Lg) (T : Tb) (start next : Int) (i : Nat) : Prop where
  ok : ∀ x ∈ L, LgOk x ∧ 1 ≤ x.pid ∧ 1 ≤ x.n ∧ x.n ≤ 3 ∧ x.base + x.n ≤ next
  rise : L.Pairwise (fun x y : Lg => x.base + (x.n : Int) ≤ y.base)
  each : ∀ pid, LOk (logN pid L) ∧ Dr (logN pid L) (tget T pid) start
  b0 : 0 ≤ start
  b1 : start ≤ next
  b2 : next ≤ 3 * (i : Int)
  len : L.length ≤ i
  cnt : cntT T ≤ i
theorem OnceI.start : OnceI [] [] 0 0 0 :=
  ⟨(fun x hx => by cases hx), List.Pairwise.nil, fun pid => ⟨LOk.nil, Dr.refl [] 0⟩, by omega, by omega, by omega, by simp, by simp [cntT]⟩
theorem OnceI.more {L T start next i} (h : OnceI L T start next i) : OnceI L T start next (i + 1) :=
  ⟨h.ok, h.rise, h.each, h.b0, h.b1, by have := h.b2; omega, by have := h.len; omega, by have := h.cnt; omega⟩

theorem logN_cut (pid N : Int) (L : List Lg) : cutN N (logN pid L) = logN pid (L.filter fun x => decide (x.base < N)) := by
  unfold cutN logN
  rw [List.filter_map, List.filter_filter, List.filter_filter]
  congr 1
  apply List.filter_congr
  intro x _
  simp only [Function.comp, Lg.nt]
  exact Bool.and_comm _ _
theorem OnceI.cut {L T start next i} (h : OnceI L T start next i) (hT : TOk T) {k : Nat} {y : Lg} (hy : L[k]? = some y) (hs : start ≤ y.base) : OnceI (L.take k) (turnT (cutN y.base) T) start y.base (i + 1) := by
  have hk := (List.getElem?_eq_some_iff.1 hy).1
  have hat : ∀ (j : Nat) x, L[j]? = some x → (decide (x.base < y.base) = true ↔ j < k) := fun j x hx => by
    have hj := (List.getElem?_eq_some_iff.1 hx).1
    simp only [decide_eq_true_eq]
    rcases Nat.lt_trichotomy j k with h1 | h1 | h1
    · have h2 := List.pairwise_iff_getElem.1 h.rise j k hj hk h1
      rw [(List.getElem?_eq_some_iff.1 hx).2, (List.getElem?_eq_some_iff.1 hy).2] at h2
      have h3 := (h.ok x (List.mem_of_getElem? hx)).2.2.1
      constructor
      · intro _; exact h1
      · intro _; omega
    · subst h1
      rw [hx] at hy; cases hy
      omega
    · have h2 := List.pairwise_iff_getElem.1 h.rise k j hk hj h1
      rw [(List.getElem?_eq_some_iff.1 hx).2, (List.getElem?_eq_some_iff.1 hy).2] at h2
      omega
  have hcut : ∀ pid, logN pid (L.take k) = cutN y.base (logN pid L) := fun pid => by
    rw [logN_cut, filter_take_any L _ k hat]
  have hyo := h.ok y (List.mem_of_getElem? hy)
  refine ⟨fun x hx => ?_, h.rise.sublist (List.take_sublist _ _), fun pid => ?_, h.b0, hs, ?_, ?_, ?_⟩
  · have hx2 := h.ok x (List.mem_of_mem_take hx)
    refine ⟨hx2.1, hx2.2.1, hx2.2.2.1, hx2.2.2.2.1, ?_⟩
    obtain ⟨j, hj, e⟩ := List.getElem_of_mem hx
    rw [List.length_take] at hj
    have h2 := List.pairwise_iff_getElem.1 h.rise j k (by omega) hk (by omega)
    rw [(List.getElem?_eq_some_iff.1 hy).2] at h2
    rw [List.getElem_take] at e
    rw [e] at h2
    exact h2
  · rw [hcut pid, tget_turn T hT _ rfl (cut_ok y.base)]
    exact ⟨(cut_ok _ _ (h.each pid).1).1, (h.each pid).2.cut (h.each pid).1 hs⟩
  · have := h.b2; omega
  · rw [List.length_take]; have := h.len; omega
  · have := cntT_turn (cutN y.base) (fun l hl => (cut_ok y.base l hl).2) T (fun p hp => (hT.each p hp).2.2)
    have := h.cnt
    omega
theorem OnceI.del {L T start next i} (h : OnceI L T start next i) (hT : TOk T) {N : Int} (h1 : start ≤ N) (h2 : N ≤ next) : OnceI L (turnT (shortL N) T) N next (i + 1) := by
  refine ⟨h.ok, h.rise, fun pid => ?_, by have := h.b0; omega, h2, by have := h.b2; omega, by have := h.len; omega, ?_⟩
  · rw [tget_turn T hT _ rfl (short_ok N)]
    exact ⟨(h.each pid).1, (h.each pid).2.del (h.each pid).1 h1⟩
  · have := cntT_turn (shortL N) (fun l hl => (short_ok N l hl).2) T (fun p hp => (hT.each p hp).2.2)
    have := h.cnt
    omega

theorem right_small (pid ep seq base : Int) (n : Nat) (hp : 1 ≤ pid ∧ pid ≤ 1000000000) (he : 0 ≤ ep ∧ ep ≤ 1000000000) (hs : 0 ≤ seq ∧ seq ≤ 100000) (hb : 0 ≤ base ∧ base ≤ 100000) (hn : 1 ≤ n ∧ n ≤ 64) : rightL (batOf pid ep seq base n) = 0 := by
  have hl : (batOf pid ep seq base n).recs.length = n := zrecs_length n
  have h1 : numsB (batOf pid ep seq base n) = true := by unfold numsB inB batOf; simp; omega
  have h2 : timesB (batOf pid ep seq base n).recs = true := by unfold timesB batOf zrecs; simp [zrec, inB]
  have h3 : (batOf pid ep seq base n).recs.isEmpty = false := by
    cases h : (batOf pid ep seq base n).recs with
    | nil => rw [h] at hl; simp at hl; omega
    | cons => rfl
  have h4 : longB (batOf pid ep seq base n).recs = false := by unfold longB batOf zrecs; simp [zrec]
  have h5 : overB (batOf pid ep seq base n) = false := by
    unfold overB; rw [hl]; unfold batOf; simp; omega
  have h6 : (bodyL (batOf pid ep seq base n)).length ≤ 2000 := by
    unfold bodyL
    have a1 := intsL_length (numsOf (batOf pid ep seq base n))
    have a2 := (intL_length ((batOf pid ep seq base n).recs.length : Int)).2
    have a3 := recsL_length 0 (batOf pid ep seq base n).recs (fun r hr => by
      have := (List.mem_replicate.1 hr).2
      subst this
      simp [zrec])
    have a4 : (numsOf (batOf pid ep seq base n)).length = 5 := rfl
    rw [hl] at a3
    simp only [List.length_append]
    omega
  unfold rightL
  rw [h1, h2, h3]
  rw [if_neg (by simp), if_neg (by omega), if_neg (by rw [h4]; simp), if_neg (by rw [h5]; simp), if_neg (by omega)]
theorem ntOf_batOf (b : Lg) : ntOf (batOf b.pid b.ep b.seq b.base b.n) = b.nt := by
  unfold ntOf batOf Lg.nt
  simp [zrecs]
theorem noteT_new {T : Tb} {b : Lg} (hr : rightL (batOf b.pid b.ep b.seq b.base b.n) = 0) (hp : b.pid ≠ 0) (hf : folB (tget T b.pid) b.nt = true) : noteT T (batOf b.pid b.ep b.seq b.base b.n) = tput T b.pid (tget T b.pid ++ [b.nt]) := by
  have e : (batOf b.pid b.ep b.seq b.base b.n).pid = b.pid := rfl
  unfold noteT
  rw [hr, ntOf_batOf, e, if_neg (by simp [hp]), if_pos hf]
/-- The numbers of a batch that small makes. -/
structure SmallB (b : Lg) (next : Int) : Prop where
  pid : 1 ≤ b.pid ∧ b.pid ≤ 3
  ep : 0 ≤ b.ep ∧ b.ep ≤ 2
  seq : 0 ≤ b.seq ∧ b.seq ≤ 11
  n : 1 ≤ b.n ∧ b.n ≤ 3
  base : b.base = next
theorem SmallB.ok {b : Lg} {next : Int} (h : SmallB b next) (hn : 0 ≤ next ∧ next ≤ 100000) : LgOk b := by
  obtain ⟨h1, h2, h3, h4, h5⟩ := h
  exact ⟨by omega, by omega, by omega, by omega, by omega⟩
theorem SmallB.right {b : Lg} {next : Int} (h : SmallB b next) (hn : 0 ≤ next ∧ next ≤ 100000) : rightL (batOf b.pid b.ep b.seq b.base b.n) = 0 := by
  obtain ⟨h1, h2, h3, h4, h5⟩ := h
  exact right_small _ _ _ _ _ (by omega) (by omega) (by omega) (by omega) (by omega)
theorem SmallB.ask {b : Lg} {next : Int} (h : SmallB b next) (l : List Nt) : askL l b.pid b.ep b.seq b.n = findL l b.ep b.seq b.n := by
  obtain ⟨h1, h2, h3, h4, h5⟩ := h
  unfold askL
  have e : argB b.pid b.ep b.seq b.n = true := by
    unfold argB inB
    simp
    omega
  rw [e]
  rw [if_neg (by simp), if_neg (by omega), if_neg (by omega)]
theorem OnceI.nt {L T start next i} (h : OnceI L T start next i) (hi : i ≤ 1000) {b : Lg} (hb : SmallB b next) : NtOk b.nt := by
  obtain ⟨h1, h2, h3, h4, h5⟩ := hb
  have := h.b0; have := h.b1; have := h.b2
  refine ⟨?_, ?_, ?_, ?_⟩ <;> simp only [Lg.nt] <;> omega
theorem OnceI.offs {L T start next i} (h : OnceI L T start next i) (pid : Int) : ∀ x ∈ logN pid L, x.off < next := fun x hx => by
  unfold logN at hx
  obtain ⟨y, hy, rfl⟩ := List.mem_map.1 hx
  have := h.ok y (List.mem_filter.1 hy).1
  simp only [Lg.nt]; omega
theorem OnceI.new {L T start next i} (h : OnceI L T start next i) (hT : TOk T) (hi : i ≤ 1000) {b : Lg} (hb : SmallB b next) (he : (findL (logN b.pid L) b.ep b.seq b.n).2 = 0) (hat : (findL (logN b.pid L) b.ep b.seq b.n).1 < 0) :
    OnceI (L ++ [b]) (noteT T (batOf b.pid b.ep b.seq b.base b.n)) start (next + b.n) (i + 1) := by
  have hn : 0 ≤ next ∧ next ≤ 100000 := by have := h.b0; have := h.b1; have := h.b2; omega
  have hok := hb.ok hn
  have hfl := new_follows b hok _ (h.each b.pid).1 he hat (fun x hx => by rw [hb.base]; exact h.offs b.pid x hx)
  have hfT : folB (tget T b.pid) b.nt = true := by rw [(h.each b.pid).2.follows]; exact hfl
  have hp := hb.pid
  have hnn := hb.n
  rw [noteT_new (hb.right hn) (by omega) hfT]
  refine ⟨fun x hx => ?_, ?_, fun pid => ?_, h.b0, by have := h.b1; omega, by have := h.b2; omega, by have := h.len; simp; omega, ?_⟩
  · rcases List.mem_append.1 hx with hx | hx
    · have := h.ok x hx
      exact ⟨this.1, this.2.1, this.2.2.1, this.2.2.2.1, by omega⟩
    · simp at hx; subst hx
      exact ⟨hok, hp.1, hnn.1, hnn.2, by rw [hb.base]; omega⟩
  · refine List.pairwise_append.2 ⟨h.rise, List.pairwise_singleton _ _, fun x hx y hy => ?_⟩
    simp at hy; subst hy
    rw [hb.base]
    exact (h.ok x hx).2.2.2.2
  · rw [logN_snoc, tget_put T hT.rise]
    by_cases e : b.pid = pid
    · rw [if_pos e, if_pos e.symm]
      subst e
      refine ⟨(h.each b.pid).1.snoc (h.nt hi hb) hfl, (h.each b.pid).2.snoc ?_⟩
      simp only [Lg.nt]
      rw [hb.base]; exact h.b1
    · rw [if_neg e, if_neg (fun e2 => e e2.symm)]
      exact h.each pid
  · unfold tput
    rw [cntT_tins]
    have := cntT_del b.pid T
    have := h.cnt
    simp only [List.length_append, List.length_singleton]
    omega

/-- A table and a log of a call's own. -/
def OM (w0 w : World) (q : Nat) (T : Tb) (v : Value) (ls : List (Lg × Nat)) : Prop :=
  ∃ S : Nat → Prop, Tab w S q T ∧ (∀ k, S k → w0.heap.size ≤ k) ∧ LR w w0.heap.size v ls ∧ (∀ k, v.ownBlock = some k → ¬ S k) ∧ Below w0.heap.size w0 w
theorem OM.below {w0 w : World} {q T v ls} (h : OM w0 w q T v ls) : Below w0.heap.size w0 w := by obtain ⟨S, _, _, _, _, h⟩ := h; exact h
theorem OM.ok {w0 w : World} {q T v ls} (h : OM w0 w q T v ls) : TOk T := by obtain ⟨S, h, _⟩ := h; exact h.ok
theorem OM.row {w0 w : World} {q T v ls} (h : OM w0 w q T v ls) : LR w w0.heap.size v ls := by obtain ⟨S, _, _, h, _⟩ := h; exact h
theorem OM.under {w0 w w1 : World} {q T v ls} (h : OM w0 w q T v ls) (hb : Below w.heap.size w w1) : OM w0 w1 q T v ls := by
  obtain ⟨S, h1, h2, h3, h4, h5⟩ := h
  exact ⟨S, h1.under hb, h2, h3.under hb, h4, h5.trans (hb.mono h5.size)⟩
theorem OM.after {w0 w w1 : World} {q : Nat} {T' : Tb} {S : Nat → Prop} {v : Value} {ls : List (Lg × Nat)} (h2 : ∀ k, S k → w0.heap.size ≤ k) (h3 : LR w w0.heap.size v ls) (h4 : ∀ k, v.ownBlock = some k → ¬ S k) (h5 : Below w0.heap.size w0 w) (ha : TAfter S w w1 q T') : OM w0 w1 q T' v ls := by
  obtain ⟨S', a1, a2, a3, a4⟩ := ha
  refine ⟨S', a1, fun k hk => ?_, h3.kept (fun k hk => a4.block k (h3.lt k hk).2 (h4 k hk)), fun k hk hS => ?_, h5.trans (a4.below h5.size h2)⟩
  · rcases a2 k hk with h | h
    · exact h2 k h
    · have := h5.size; omega
  · rcases a2 k hS with h | h
    · exact h4 k hk h
    · have := (h3.lt k hk).2; omega
theorem OM.ask {w0 w : World} {q T v ls} (h : OM w0 w q T v ls) (pid ep seq n : Int) (hp : I64 pid) (he : I64 ep) (hs : I64 seq) (hn : I64 n) :
    Calls Try.prog 14 #[.pointer (some ⟨q, 0, none⟩), .int .i64 pid, .int .i64 ep, .int .i64 seq, .int .i64 n] w fun e w' =>
      e = .returned (.tuple #[.int .i64 (askL (tget T pid) pid ep seq n).1, .int .i64 (askL (tget T pid) pid ep seq n).2]) ∧ Below w.heap.size w w' := by
  obtain ⟨S, h1, h2, h3⟩ := id h
  exact ask_any h1 pid ep seq n hp he hs hn
theorem OM.note {w0 w : World} {q T v ls} (h : OM w0 w q T v ls) (pid ep seq base : Int) (n g : Nat) (hp : I64 pid) (he : I64 ep) (hs : I64 seq) (hb : I64 base) (hr : Recs w (.slice (some ⟨g, 0, none⟩) n n) (zrecs n)) (hc : cntT T < 100000) :
    Calls Try.prog 12 #[.pointer (some ⟨q, 0, none⟩), .agg #[.int .i64 base, .int .i64 0, .int .i64 pid, .int .i64 ep, .int .i64 seq, .slice (some ⟨g, 0, none⟩) n n]] w fun e w' => e = .returned (.tuple #[]) ∧ OM w0 w' q (noteT T (batOf pid ep seq base n)) v ls := by
  obtain ⟨S, h1, h2, h3, h4, h5⟩ := h
  have := note_any h1 (batOf pid ep seq base n) (some ⟨g, 0, none⟩) n (by show Recs w (.slice (some ⟨g, 0, none⟩) (zrecs n).length n) (zrecs n); rw [zrecs_length]; exact hr) ⟨hb, by unfold I64 batOf; simp, hp, he, hs⟩ hc
  have e : (batOf pid ep seq base n).recs.length = n := zrecs_length n
  rw [e] at this
  exact this.mono fun e w' ⟨a, b⟩ => ⟨a, OM.after h2 h3 h4 h5 b⟩
theorem OM.cut {w0 w : World} {q T v ls} (h : OM w0 w q T v ls) (N : Int) : Calls Try.prog 16 #[.pointer (some ⟨q, 0, none⟩), .int .i64 N] w fun e w' => e = .returned (.tuple #[]) ∧ OM w0 w' q (turnT (cutN N) T) v ls := by
  obtain ⟨S, h1, h2, h3, h4, h5⟩ := h
  exact (cut_any h1 N).mono fun e w' ⟨a, b⟩ => ⟨a, OM.after h2 h3 h4 h5 b⟩
theorem OM.del {w0 w : World} {q T v ls} (h : OM w0 w q T v ls) (N : Int) : Calls Try.prog 18 #[.pointer (some ⟨q, 0, none⟩), .int .i64 N] w fun e w' => e = .returned (.tuple #[]) ∧ OM w0 w' q (turnT (shortL N) T) v ls := by
  obtain ⟨S, h1, h2, h3, h4, h5⟩ := h
  exact (delete_any h1 N).mono fun e w' ⟨a, b⟩ => ⟨a, OM.after h2 h3 h4 h5 b⟩
theorem OM.take {w0 w : World} {q T ls} {oa : Option Addr} {n cap : Nat} (h : OM w0 w q T (.slice oa n cap) ls) (k : Nat) (hk : k ≤ ls.length) : OM w0 w q T (.slice oa k cap) (ls.take k) := by
  obtain ⟨S, h1, h2, h3, h4, h5⟩ := h
  refine ⟨S, h1, h2, h3.take k hk, fun j hj => h4 j ?_, h5⟩
  cases oa with
  | none => cases hj
  | some a => exact hj
theorem OM.append {w0 w w1 : World} {q T v ls} (h : OM w0 w q T v ls) {v' : Value} {p : Lg × Nat} (ho : w1.ownsRow w0.heap.size 33 6 v' (ls.length + 1) (flatL ls ++ lcells p)) (hg : w.grownBy w1 v.ownBlock) (hat : v'.ownBlock = v.ownBlock ∨ v'.ownBlock = some w.heap.size) : OM w0 w1 q T v' (ls ++ [p]) := by
  obtain ⟨S, ⟨b, fs, h1, rfl⟩, h2, h3, h4, h5⟩ := h
  refine ⟨S, ⟨b, fs, h1.kept (fun k hk => hg.block k (h1.below k hk) (fun e => h4 k e.symm hk)) hg.size, rfl⟩, h2, ?_, fun k hk hS => ?_, h5.grown hg h5.size (fun j hj => (h3.lt j hj).1)⟩
  · unfold LR
    rw [flatL_append, List.length_append]
    have e : flatL [p] = lcells p := by simp [flatL]
    rw [e]
    exact ho
  · rcases hat with h6 | h6
    · exact h4 k (by rw [← h6]; exact hk) hS
    · rw [h6] at hk
      cases hk
      have := h1.below _ hS
      omega
end Go.Proofs.Ytkdbclnnmpnfgaa

