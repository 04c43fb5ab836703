/- RaftlogFull: what a round stands on. -/
import Derived.Test.YtbgmehanhilicaaKF3
import Derived.Test.YtbgmehanhilicaaKF1
import Derived.Test.YtbgmehanhilicaaK24
import Derived.Test.YtbgmehanhilicaaKO1b
import Derived.Laws.OwnMore
namespace Go.Proofs.Ytbgmehanhilicaa
open Go.RowKit Go.Maps
set_option maxRecDepth 100000
set_option linter.unusedSimpArgs false
set_option linter.unusedVariables false

/-- Numbers that came in, below a world's end. -/
structure Nums (w : World) (oa : Option Addr) (ks : List Int) : Prop where
  at_ : dIntsAt w oa ks
  lt : ks ≠ [] → ∀ b off, oa = some ⟨b, off, none⟩ → b < w.heap.size
  len : ks.length ≤ maxLen
theorem Nums.get {w w1 : World} {oa : Option Addr} {ks : List Int} (h : Nums w oa ks) (hb : Below w.heap.size w w1) (k : Nat) (hk : k < ks.length) : ∃ b off, oa = some ⟨b, off, none⟩ ∧ w1.cell? ⟨b, off + k, none⟩ = some (.int .i64 ks[k]) ∧ -9223372036854775808 ≤ ks[k] ∧ ks[k] ≤ 9223372036854775807 := by
  have hne : ks ≠ [] := fun e => by rw [e] at hk; simp at hk
  rcases h.at_ with h0 | ⟨b, off, e, hc⟩
  · exact absurd h0 hne
  · have := hc k hk
    exact ⟨b, off, e, (World.cell?_of_block (hb.block b (h.lt hne b off e))).trans this.1, this.2.1, this.2.2⟩
theorem Nums.cell {w w1 : World} {b off : Nat} {ks : List Int} (h : Nums w (some ⟨b, off, none⟩) ks) (hb : Below w.heap.size w w1) (k : Nat) (hk : k < ks.length) : w1.cell? ⟨b, off + k, none⟩ = some (.int .i64 ks[k]) := by
  obtain ⟨b', off', e, h1, _⟩ := h.get hb k hk
  cases e
  exact h1
theorem pick_one (c : Int) (m : Nat) (h1 : -9223372036854775808 ≤ c) (h2 : c ≤ 9223372036854775807) (hm : 1 ≤ m) (hm2 : m ≤ 5000) (M : Int) (hM : M = (m : Int)) : ∃ (r : Int) (n : Nat), r = (n : Int) ∧ n < m ∧ ∀ W, Calls Try.prog 9 #[.int .i64 c, .int .i64 M] W fun e w' => e = .returned (.int .i64 (n : Int)) ∧ w' = W := by
  subst hM
  have hr := pickI_range c m (by omega)
  refine ⟨pickI c m, (pickI c m).toNat, by omega, by omega, fun W => ?_⟩
  have e : ((pickI c m).toNat : Int) = pickI c m := by omega
  rw [e]
  exact (pick_any c m W h1 h2 (by omega) (by omega)).mono fun e w' ⟨e1, e2⟩ => ⟨e1, e2.symm⟩
/-- The log, and what was read of it. -/
def Hr (w W : World) (q a N : Nat) (l : List Et) (v : Value) : Prop := ∃ X, LF w W X q a N (sL l) ∧ EL W v l ∧ ∀ z, v.ownBlock = some z → X z
def Std (w W : World) (q a N : Nat) (l : List Et) (v nv : Value) : Prop := Hr w W q a N l v ∧ EL W nv l
theorem Hr.under {w W W' : World} {q a N l v} (h : Hr w W q a N l v) (hb : Below W.heap.size W W') : Hr w W' q a N l v := by
  obtain ⟨X, h1, h2, h3⟩ := h
  exact ⟨X, h1.under hb, h2.under hb, h3⟩
theorem Hr.lf {w W : World} {q a N l v} (h : Hr w W q a N l v) : LF w W NoB q a N (sL l) := by
  obtain ⟨X, h1, h2, h3⟩ := h
  exact h1.less
theorem Std.same {w W : World} {q a N l v nv} (h : Std w W q a N l v nv) : Calls Try.prog 16 #[nv, v] W fun e w' => e = .returned (.bool true) ∧ Hr w w' q a N l v := by
  obtain ⟨X, h1, h2, h3⟩ := id h.1
  exact (sameE_yes h.2 h2).mono fun e w' ⟨e1, e2⟩ => ⟨e1, h.1.under e2⟩
theorem Hr.again {w W : World} {q a N l v} (hsize : N ≤ 8000000) (h : Hr w W q a N l v) : Calls Try.prog 7 #[.pointer (some ⟨a, 0, none⟩), .string ⟨#[114]⟩] W fun e w' => e = .returned (.tuple #[.pointer (some ⟨W.heap.size, 0, none⟩), .int .i64 0]) ∧ Hr w w' q a N l v ∧ ∃ U v, LogM w' U W.heap.size a v (sL l) := by
  obtain ⟨X, h1, h2, h3⟩ := h
  exact (LF.again hsize h1).mono fun e w' ⟨e1, e2, e3⟩ => ⟨e1, ⟨X, e2.1, h2.kept (fun k hk => e2.2.1 k (h3 k hk)), h3⟩, e3⟩
theorem Hr.read {w W : World} {q a N m l v} (h : Hr w W q a N l v) (hm : ∃ U v, LogM W U m a v (sL l)) (hl : l.length ≤ 1000000) : Calls Try.prog 13 #[.pointer (some ⟨m, 0, none⟩), .int .i64 1, .int .i64 1000000] W fun e w' => ∃ nv, e = .returned nv ∧ Std w w' q a N l v nv := by
  obtain ⟨U, vm, hm⟩ := hm
  obtain ⟨X, h1, h2, h3⟩ := id h
  have := from_any hm h1.lb 1 1000000
  rw [sL_from l hl] at this
  exact this.mono fun e w' ⟨nv, e1, e2, e3, e4⟩ => ⟨nv, e1, h.under e4, e2⟩
/-- The log's own reading. -/
theorem LF.read {w W : World} {X q a N l} (h : LF w W X q a N (sL l)) (hl : l.length ≤ 1000000) : Calls Try.prog 13 #[.pointer (some ⟨q, 0, none⟩), .int .i64 1, .int .i64 1000000] W fun e w' => ∃ nv, e = .returned nv ∧ EL w' nv l ∧ (∀ k, nv.ownBlock = some k → W.heap.size ≤ k) ∧ Below W.heap.size W w' := by
  have := h.from 1 1000000
  rw [sL_from l hl] at this
  exact this
theorem LF.grew {w0 w w' : World} {X q a size s} (h : LF w0 w X q a size s) {r : Option Nat} (hg : w.grownBy w' r) (hr : ∀ g, r = some g → X g ∧ w0.heap.size ≤ g) : LF w0 w' (fun z => X z ∨ (w.heap.size ≤ z ∧ z < w'.heap.size)) q a size s := by
  cases r with
  | some g => exact h.grownTo hg (hr g rfl).1 (hr g rfl).2 _ (fun k hk => hk)
  | none =>
    exact h.with ⟨hg.os, hg.tape, hg.output, hg.size, fun k hk => hg.block k hk (by simp)⟩ _ (fun k hk => hk)
/-- The entry is added to what was read. -/
theorem Std.push {w W W' w' : World} {q a N : Nat} {l : List Et} {x : Et} {v v' nv : Value} {X : Nat → Prop} (hs : LF w W X q a N (sL (l ++ [x]))) (hv : EL W v l) (hvX : ∀ z, v.ownBlock = some z → X z ∧ w.heap.size ≤ z) (hn : EL W nv (l ++ [x])) (hnv : ∀ z, nv.ownBlock = some z → v.ownBlock ≠ some z) (hW : Below W.heap.size W W')
    (hown : w'.ownsRow 0 38 3 v' (l.length + 1) (flatT l ++ [.int .i64 x.t, .int .i64 x.i, .string (strOf x.d)])) (hg : W'.grownBy w' v.ownBlock) (hat : v'.ownBlock = v.ownBlock ∨ v'.ownBlock = some W'.heap.size) : Std w w' q a N (l ++ [x]) v' nv := by
  have hE : EL w' v' (l ++ [x]) := by
    unfold EL
    rw [List.length_append, flatT_append]
    exact hown
  have L1 := (hs.under hW).grew hg hvX
  refine ⟨⟨_, L1, hE, fun z hz => ?_⟩, ?_⟩
  · rcases hat with h | h
    · exact .inl (hvX z (by rw [← h]; exact hz)).1
    · have := hE.lt z hz
      rw [h] at hz
      cases hz
      exact .inr ⟨Nat.le_refl _, this⟩
  · exact (hn.under hW).kept (fun k hk => hg.block k (Nat.lt_of_lt_of_le (hn.lt k hk) hW.size) (fun e => hnv k hk e.symm))
theorem news3 (w : World) (a0 a1 a2 : Value) (T : TypeId) : ∀ j u, [a0, a1, a2][j]? = some u → (w.alloc (.cells #[a0, a1, a2] T)).cell? ((⟨w.heap.size, 0, none⟩ : Addr).add j) = some u := fun j u hu => by
  rw [add_lit0]
  exact cell_at (heap_alloc_new _ _) (by simpa using hu)
theorem news3_one (n0 n1 : Int) (t : ByteArray) : ∀ u ∈ ([.int .i64 n0, .int .i64 n1, .string t] : List Value), u.oneCell' = true := by
  intro u hu
  simp at hu
  rcases hu with rfl | rfl | rfl <;> rfl
theorem row_one (w : World) (x : Et) : EL (w.alloc (.cells #[.int .i64 x.t, .int .i64 x.i, .string (strOf x.d)] 38)) (.slice (some ⟨w.heap.size, 0, none⟩) 1 1) [x] :=
  ⟨rfl, .inr ⟨w.heap.size, 1, #[.int .i64 x.t, .int .i64 x.i, .string (strOf x.d)], rfl, Nat.zero_le _, heap_alloc_new w _, Nat.le_refl _, by unfold maxLen; omega, rfl, rfl⟩⟩
/-- What a round stands on behind the log's Put. -/
structure Put1 (w w3 W : World) (q a N : Nat) (l l' : List Et) (x : Et) (v : Value) (p : Nat) (Y : Nat → Prop) : Prop where
  log : LF w W Y q a N (sL l')
  was : EL W v l
  own : ∀ z, v.ownBlock = some z → Y z ∧ w.heap.size ≤ z
  box : W.heap[p]? = some (.cells #[.int .i64 x.t, .int .i64 x.i, .string (strOf x.d)] 38)
theorem Put1.under {w w3 W W' : World} {q a N l l' x v p Y} (h : Put1 w w3 W q a N l l' x v p Y) (hb : Below W.heap.size W W') : Put1 w w3 W' q a N l l' x v p Y :=
  ⟨h.log.under hb, h.was.under hb, h.own, (hb.block p (lt_blk h.box)).trans h.box⟩
theorem put_one {w w3 w5 : World} {q a N l v} (x : Et) (hL : LF w w3 NoB q a N (sL l)) (hb : Below w3.heap.size w3 w5) (hv : EL w5 v l) (ho : ∀ z, v.ownBlock = some z → w3.heap.size ≤ z) (s' : List Et) (c : Nat) (hP : putE (N - totalA (sL l).fs) (sL l) (l.length : Int) [x] = (c, sL s')) :
    Calls Try.prog 11 #[.pointer (some ⟨q, 0, none⟩), .int .i64 (l.length : Int), .slice (some ⟨w5.heap.size + 1, 0, none⟩) 1 1] ((w5.alloc (.cells #[.int .i64 x.t, .int .i64 x.i, .string (strOf x.d)] 38)).alloc (.cells #[.int .i64 x.t, .int .i64 x.i, .string (strOf x.d)] 38)) fun e w' => e = .returned (.int .i64 (c : Int)) ∧ ∃ Y, Put1 w w3 w' q a N l s' x v w5.heap.size Y := by
  have hz : (w5.alloc (.cells #[.int .i64 x.t, .int .i64 x.i, .string (strOf x.d)] 38)).heap.size = w5.heap.size + 1 := by simp
  have hbA : Below w5.heap.size w5 ((w5.alloc (.cells #[.int .i64 x.t, .int .i64 x.i, .string (strOf x.d)] 38)).alloc (.cells #[.int .i64 x.t, .int .i64 x.i, .string (strOf x.d)] 38)) := ((Below.refl _ _).alloc (Nat.le_refl _) _).alloc (by simp) _
  have hE := row_one (w5.alloc (.cells #[.int .i64 x.t, .int .i64 x.i, .string (strOf x.d)] 38)) x
  rw [hz] at hE
  have hbx : ((w5.alloc (.cells #[.int .i64 x.t, .int .i64 x.i, .string (strOf x.d)] 38)).alloc (.cells #[.int .i64 x.t, .int .i64 x.i, .string (strOf x.d)] 38)).heap[w5.heap.size]? = some (.cells #[.int .i64 x.t, .int .i64 x.i, .string (strOf x.d)] 38) := blk_alloc (heap_alloc_new w5 _) _
  have hzz : ((w5.alloc (.cells #[.int .i64 x.t, .int .i64 x.i, .string (strOf x.d)] 38)).alloc (.cells #[.int .i64 x.t, .int .i64 x.i, .string (strOf x.d)] 38)).heap.size = w5.heap.size + 2 := by simp
  have hv2 := hv.under hbA
  have hb2 := hb.trans (hbA.mono hb.size)
  have hs := hb.size
  have h0 := hL.below.size
  generalize (w5.alloc (.cells #[.int .i64 x.t, .int .i64 x.i, .string (strOf x.d)] 38)).alloc (.cells #[.int .i64 x.t, .int .i64 x.i, .string (strOf x.d)] 38) = W at *
  have hY := hL.with hb2 (fun z => w3.heap.size ≤ z ∧ z < W.heap.size) (fun k hk => .inr hk)
  have hput := hY.put (oa := some ⟨w5.heap.size + 1, 0, none⟩) (cap := 1) (l := [x]) hE.at (by simp) (by simp) (by unfold maxLen; omega) (fun _ ad had => .inl (by cases had; exact ⟨by show w3.heap.size ≤ w5.heap.size + 1; omega, by show w5.heap.size + 1 < W.heap.size; omega⟩)) (l.length : Int)
  rw [hP] at hput
  refine hput.mono ?_
  rintro e w' ⟨rfl, h1, h2, h3⟩
  refine ⟨rfl, _, h1, hv2.kept (fun k hk => h2 k ⟨ho k hk, hv2.lt k hk⟩), fun z hz => ⟨⟨ho z hz, hv2.lt z hz⟩, by have := ho z hz; omega⟩, (h2 _ ⟨by omega, by omega⟩).trans hbx⟩
theorem made_zero (n : Nat) : (madeCells (Value.int .u8 0).cells (n * 1)).toList = u8c (List.replicate n 0) := by
  simp [madeCells, Value.cells, u8c, Nat.mod_one]
  apply List.ext_getElem
  · simp
  · intro i h1 h2
    simp
theorem make_zero (w : World) (n : Nat) (hn : n ≤ 300) : ∃ w', (Instr.makeSlice 53 (.int .i64 (n : Int)) (.int .i64 (n : Int))).run Try.prog w = .ok (.slice (some ⟨w.heap.size, 0, none⟩) n n) w' ∧ (convert 53 9 (.slice (some ⟨w.heap.size, 0, none⟩) n n)).run Try.prog w' = .ok (.string (strOf (List.replicate n 0))) w' ∧ Below w.heap.size w w' := by
  obtain ⟨i, hi, hz, hs, hb⟩ := info5
  obtain ⟨w', h1, h2, h3⟩ := run_make_full (P := Try.prog) w w.heap.size 53 5 i (.int .u8 0) 1 Try.underlying53 hi hz hs .i64 .i64 n (by rw [hb]; omega) (by unfold maxLen; omega) (Nat.le_refl _)
  rw [made_zero] at h2
  have hR : Row w' w.heap.size (.slice (some ⟨w.heap.size, 0, none⟩) n n) (List.replicate n 0) := by unfold Row; rw [List.length_replicate]; exact h2
  exact ⟨w', h1, hR.conv, h3.os, h3.tape, h3.output, h3.size, fun k hk => h3.block k hk (by simp)⟩
end Go.Proofs.Ytbgmehanhilicaa

