/- What Cut, Rename and Remove do. -/
import Derived.Test.YtclldpecbocclaaGreatK3
namespace Go.Proofs.YtclldpecbocclaaGreat
open Go.RowKit Go.Maps Go.Sort
open Go.WideMaps (keyOf_string_mk)
set_option maxRecDepth 100000
set_option linter.unusedSimpArgs false
set_option linter.unusedVariables false

theorem dmap_del (fs : List (List UInt8 × FileE)) (n : List UInt8) : (dmap fs).del (.string n) = dmap (fdel fs n) := by
  show DataW.map ((fs.map fun p => (Lit.string p.1, (DataW.held p.2.val : DataW Value))).filter (fun p => !p.1.sameKey (.string n))) = _
  rw [filter_dmap]
  rfl

theorem mem_fdel {fs : List (List UInt8 × FileE)} {n : List UInt8} {p : List UInt8 × FileE} : p ∈ fdel fs n ↔ p ∈ fs ∧ p.1 ≠ n := by
  unfold fdel
  simp

/-- A disk whose map has lost a name. -/
theorem DiskM.deleted {w w1 : World} {S : Nat → Prop} {a size b : Nat} {fs : List (List UInt8 × FileE)} (h : DiskM w S a size (some b) fs) (n : List UInt8) (hown : w1.ownsMap Tryz.prog 9 Rh b fs.length (dmap (fdel fs n))) (hg : w.grownBy w1 (some b)) : DiskM w1 S a size (some b) (fdel fs n) := by
  have hmb : ∃ es clock, w.heap[b]? = some (.map es clock) := by obtain ⟨es, clock, e, _⟩ := (show w.ownsMap Tryz.prog 9 Rh b fs.length (dmap fs) from h.files); exact ⟨es, clock, e⟩
  obtain ⟨es, clock, hmb⟩ := hmb
  have hab : a ≠ b := fun e => by rw [← e, h.cells] at hmb; cases hmb
  have hblk : ∀ k, k < w.heap.size → k ≠ b → w1.heap[k]? = w.heap[k]? := fun k hk hne => hg.block k hk (by simpa using hne)
  have ht := total_fdel_le fs n
  refine ⟨fun k hk => Nat.lt_of_lt_of_le (h.below k hk) hg.size, h.self, (hblk a (h.below a h.self) hab).trans h.cells, ?_, h.mapS, fun p hp => ?_, List.Pairwise.filter _ h.apart, by have := h.room; omega, h.small, by have := h.few; have := len_fdel_le fs n; omega⟩
  · have := tight hown
    rw [dmap_size] at this
    exact this
  · have hp1 := (h.owns p (mem_fdel.1 hp).1)
    exact ⟨hp1.1.kept (fun _ hk => hk) (fun k hk => hblk k (hp1.1.lt k hk).2 (fun e => by
      obtain ⟨cur, mk, hh⟩ := hp1.1.block k hk
      rw [e, hmb] at hh; cases hh)), hp1.2⟩

/-- Cut's two callees. -/
theorem cut_copy {wr W : World} {S : Nat → Prop} {a size : Nat} {mo : Option Nat} {fs : List (List UInt8 × FileE)} (h : DiskM wr S a size mo fs) (hW : Below wr.heap.size wr W) {n : ByteArray} (hn : n.size ≤ maxLen) {bs : List UInt8} {safe : Nat}
    {oa : Option Addr} {capp : Nat} (hf : flook fs n.data.toList = some ⟨.slice oa bs.length capp, bs, safe⟩) (L M : Nat) (hL : L ≤ bs.length) (hM : M ≤ L) :
    Calls Tryz.prog 38 #[.slice oa L capp] W fun e w' => ∃ v, e = .returned v ∧ (∃ oa l c, v = .slice oa l c) ∧ Below W.heap.size W w' ∧
      Calls Tryz.prog 37 #[.pointer (some ⟨a, 0, none⟩), .string n, .agg #[v, .int .i64 (M : Int)]] w' fun e w'' => e = .returned (.tuple #[]) ∧ After S wr w'' a size (fput fs n.data.toList ⟨v, bs.take L, M⟩) ∧ ∀ k, k < W.heap.size → ¬ S k → w''.heap[k]? = W.heap[k]? := by
  have hB := (h.owns _ (flook_mem hf)).1
  simp only at hB
  have hsome : (flook fs n.data.toList).isSome = true := by rw [hf]; rfl
  have ht := total_fdel_le fs n.data.toList
  have hle : lenAt fs n.data.toList = bs.length := by unfold lenAt; rw [hf]
  have hroom := h.room
  have hsm := h.small
  have hlt : (bs.take L).length = L := by rw [List.length_take]; omega
  have hBW := hB.kept (w' := W) (S' := S) (fun _ hk => hk) (fun k hk => hW.block k (hB.lt k hk).2)
  have hsrc : Src W oa (bs.take L) ∧ (oa = none → capp = 0) := by
    rcases hB with ⟨e, rfl⟩ | ⟨g, cap', cur, mk, e, _⟩
    · cases e; exact ⟨.inl ⟨rfl, by simp⟩, fun _ => rfl⟩
    · cases e
      refine ⟨.inr ⟨g, rfl, fun i hi => ?_⟩, fun e => by cases e⟩
      rw [hBW.cell i (by omega)]
      simp
  have hc := copied_any W oa capp (bs.take L) hsrc.1 (by omega) hsrc.2
  rw [hlt] at hc
  refine hc.mono (fun e w' ⟨v, h1, h2, h3⟩ => ?_)
  have hW' : Below wr.heap.size wr w' := hW.trans (h3.mono hW.size)
  have hshv : ∃ oa l c, v = .slice oa l c := by obtain ⟨oa, c, e⟩ := h2.shape; exact ⟨oa, _, c, e⟩
  refine ⟨v, h1, hshv, h3, ?_⟩
  have hd : DiskM w' (fun k => S k ∨ (W.heap.size ≤ k ∧ k < w'.heap.size)) a size mo fs := (h.under hW').more (fun k hk => .inl hk) (fun k hk => by
    rcases hk with hk | hk
    · have := h.below k hk; have := hW'.size; omega
    · exact hk.2)
  have := put_any hd n hn ⟨v, bs.take L, M⟩ (h2.kept (fun k hk => .inr hk) (fun _ _ => rfl)) (by simp only; omega)
    (fun p hp hne k hk hq => by
      have h4 := ((h.owns p hp).1.lt k hq).2
      have h5 := (h2.lt k hk).1.1
      have := hW.size
      omega) (by rw [total_fput]; simp only; omega) (few_fput _ (.inl hsome) h.few)
  refine this.mono (fun e w'' ⟨h1, h2⟩ => ⟨h1, ?_, fun k hk hS => ?_⟩)
  · refine After.then (Keeps.of_below hW') (fun k hk => ?_) (fun k hk => .inl hk) h2
    rcases hk with hk | hk
    · exact .inl hk
    · exact .inr (by have := hW.size; omega)
  · obtain ⟨_, _, _, _, _, hkp⟩ := h2
    exact (hkp.block k (Nat.lt_of_lt_of_le hk h3.size) (fun h => by rcases h with h | h; exact hS h; omega)).trans (h3.block k hk)

set_option maxHeartbeats 400000 in
theorem cut_no {w : World} {S : Nat → Prop} {a size : Nat} {mo : Option Nat} {fs : List (List UInt8 × FileE)} (h : DiskM w S a size mo fs) (n : ByteArray) (hn : n.size ≤ maxLen) (i : Int) (hs : (flook fs n.data.toList).isSome = false) :
    Calls Tryz.prog 47 #[.pointer (some ⟨a, 0, none⟩), .string n, .int .i64 i] w fun e w' => e = .returned (.int .i64 8) ∧ Below w.heap.size w w' := by
  have c1 := h.c1
  have hl := h.files.look_ok n hn
  obtain ⟨oa, cap, e, hb, _⟩ := h.at_name n.data.toList
  rw [e, hs] at hl
  clear h e hs hb
  go_enter Tryz.func47, Tryz.ntmps47
  go_wp2
  go_ret
  exact ⟨rfl, (Below.refl _ _).alloc (Nat.le_refl _) _⟩

set_option maxHeartbeats 400000 in
theorem cut_arg {w : World} {S : Nat → Prop} {a size : Nat} {mo : Option Nat} {fs : List (List UInt8 × FileE)} (h : DiskM w S a size mo fs) (n : ByteArray) (hn : n.size ≤ maxLen) (i : Int) (hs : (flook fs n.data.toList).isSome = true) (hi : i < 0 ∨ ((bsAt fs n.data.toList).length : Int) < i) :
    Calls Tryz.prog 47 #[.pointer (some ⟨a, 0, none⟩), .string n, .int .i64 i] w fun e w' => e = .returned (.int .i64 1) ∧ Below w.heap.size w w' := by
  have c1 := h.c1
  have hl := h.files.look_ok n hn
  obtain ⟨oa, cap, e, hb, _⟩ := h.at_name n.data.toList
  rw [e, hs] at hl
  clear h e hs hb
  by_cases hneg : i < 0
  · clear hi
    go_enter Tryz.func47, Tryz.ntmps47
    go_wp2
    go_ret
    exact ⟨rfl, (Below.refl _ _).alloc (Nat.le_refl _) _⟩
  · have hgt : ((bsAt fs n.data.toList).length : Int) < i := by omega
    clear hi
    go_enter Tryz.func47, Tryz.ntmps47
    go_wp2
    go_ret
    exact ⟨rfl, (Below.refl _ _).alloc (Nat.le_refl _) _⟩

set_option maxHeartbeats 1600000 in
theorem cut_yes {w : World} {S : Nat → Prop} {a size : Nat} {mo : Option Nat} {fs : List (List UInt8 × FileE)} (h : DiskM w S a size mo fs) (n : ByteArray) (hn : n.size ≤ maxLen) (L : Nat) (f : FileE) (hf : flook fs n.data.toList = some f) (hL : L ≤ f.bs.length) :
    Calls Tryz.prog 47 #[.pointer (some ⟨a, 0, none⟩), .string n, .int .i64 (L : Int)] w fun e w' => e = .returned (.int .i64 0) ∧ ∃ v, After S w w' a size (fput fs n.data.toList ⟨v, f.bs.take L, min f.safe L⟩) := by
  have c1 := h.c1
  have hl := h.files.look_ok n hn
  have hbf := h.owns _ (flook_mem hf)
  have hsome : (flook fs n.data.toList).isSome = true := by rw [hf]; rfl
  obtain ⟨sv, bs, safe⟩ := f
  simp only at hbf hL ⊢
  obtain ⟨oa, cap, e⟩ := hbf.1.shape
  subst e
  have ev : fval fs n.data.toList = .agg #[.slice oa bs.length cap, .int .i64 (safe : Int)] := by unfold fval; rw [hf]; rfl
  rw [ev, hsome] at hl
  have hcap : bs.length ≤ cap ∧ cap ≤ 9223372036854775807 := by
    rcases hbf.1 with ⟨e, e2⟩ | ⟨g', cap', cur, mk, e, _, _, h3, h4, _⟩
    · subst e2; cases e; simp
    · cases e; unfold maxLen at h4; exact ⟨h3, by omega⟩
  have hcap1 := hcap.1
  have hcap2 := hcap.2
  obtain ⟨M, hM⟩ : ∃ M : Nat, M = min safe L := ⟨_, rfl⟩
  have hmin : min (safe : Int) (L : Int) = (M : Int) := by omega
  have hneg : ¬ ((L : Int) < 0) := by omega
  have hgt : ¬ ((bs.length : Int) < (L : Int)) := by omega
  have hLc : L ≤ cap := by omega
  have hnone : oa = none → L = 0 := fun e => by
    rcases hbf.1 with ⟨_, e2⟩ | ⟨g', cap', cur, mk, e', _⟩
    · subst e2; simpa using hL
    · cases e'; cases e
  have hnil : oa = none → cap = 0 ∧ bs = [] := fun e => by
    rcases hbf.1 with ⟨e1, e2⟩ | ⟨g', cap', cur, mk, e', _⟩
    · rw [e] at e1; simp at e1; exact ⟨e1.2, e2⟩
    · cases e'; cases e
  have hnS : ¬ S w.heap.size := fun hS => by have := h.below _ hS; omega
  have HCp : Hid (∀ W, Below w.heap.size w W → Calls Tryz.prog 38 #[.slice oa L cap] W fun e w' => ∃ v, e = .returned v ∧ (∃ oa l c, v = .slice oa l c) ∧ Below W.heap.size W w' ∧
      Calls Tryz.prog 37 #[.pointer (some ⟨a, 0, none⟩), .string n, .agg #[v, .int .i64 (M : Int)]] w' fun e w'' => e = .returned (.tuple #[]) ∧ After S w w'' a size (fput fs n.data.toList ⟨v, bs.take L, M⟩) ∧ ∀ k, k < W.heap.size → ¬ S k → w''.heap[k]? = W.heap[k]?) := fun W hW =>
    cut_copy h hW hn hf L M hL (by omega)
  have HM : Hid (M = min safe L) := hM
  have hspot : ∀ x, oa = some x → ∃ g, x = ⟨g, 0, none⟩ := fun x e => by
    rcases hbf.1 with ⟨e1, _⟩ | ⟨g', cap', cur, mk, e', _⟩
    · rw [e] at e1; cases e1
    · rw [e] at e'; cases e'; exact ⟨_, rfl⟩
  clear h hbf ev hf hsome hcap hM
  cases oa with
  | none =>
    obtain ⟨rfl, rfl⟩ := hnil rfl
    have hL0 := hnone rfl
    subst hL0
    have HCp' : Hid (∀ W, Below w.heap.size w W → Calls Tryz.prog 38 #[.slice none 0 0] W fun e w' => ∃ v, e = .returned v ∧ (∃ oa l c, v = .slice oa l c) ∧ Below W.heap.size W w' ∧
      Calls Tryz.prog 37 #[.pointer (some ⟨a, 0, none⟩), .string n, .agg #[v, .int .i64 (M : Int)]] w' fun e w'' => e = .returned (.tuple #[]) ∧ After S w w'' a size (fput fs n.data.toList ⟨v, [], M⟩) ∧ ∀ k, k < W.heap.size → ¬ S k → w''.heap[k]? = W.heap[k]?) := HCp.out
    have hl' : (Instr.lookup 57 (.map mo) (.string n) true).run Tryz.prog w = .ok (.tuple #[.agg #[.slice none 0 0, .int .i64 (safe : Int)], .bool true]) w := hl
    have hmin' : min (safe : Int) 0 = (M : Int) := by simpa using hmin
    have hnot : ¬ ((0 : Int) < 0) := by omega
    clear hspot hnone hnil HCp hl hmin hneg hgt hLc hcap1 hcap2 hL
    show Calls Tryz.prog 47 #[.pointer (some ⟨a, 0, none⟩), .string n, .int .i64 0] w fun e w' => e = .returned (.int .i64 0) ∧ ∃ v, After S w w' a size (fput fs n.data.toList ⟨v, [], min safe 0⟩)
    go_enter Tryz.func47, Tryz.ntmps47
    go_wp2
    go_region_held3 (fun w' => w'.cell? ⟨w.heap.size, 0, none⟩ = some (.slice none 0 0) ∧ w'.cell? ⟨w.heap.size, 1, none⟩ = some (.int .i64 (safe : Int)))
      (first | exact ⟨hcC, hcD⟩ | exact ⟨hcA, hcB⟩ | (constructor <;> simp))
      (first
      | (go_at_call 38; refine (HCp'.out _ (((Below.refl _ _).alloc (Nat.le_refl _) _).drew)).mono ?_; rintro e w2 ⟨v, rfl, ⟨oa2, l2, c2, rfl⟩, hb2, hput⟩; have hcA : w2.cell? ⟨w.heap.size, 0, none⟩ = some (.slice none 0 0) := (hb2.cell (p := ⟨w.heap.size, 0, none⟩) (by simp)).trans (by simp); have hcB : w2.cell? ⟨w.heap.size, 1, none⟩ = some (.int .i64 (safe : Int)) := (hb2.cell (p := ⟨w.heap.size, 1, none⟩) (by simp)).trans (by simp); have HPut : Hid (Calls Tryz.prog 37 #[.pointer (some ⟨a, 0, none⟩), .string n, .agg #[.slice oa2 l2 c2, .int .i64 (M : Int)]] w2 fun e w'' => e = .returned (.tuple #[]) ∧ After S w w'' a size (fput fs n.data.toList ⟨.slice oa2 l2 c2, ([] : List UInt8), M⟩) ∧ ∀ k, k < (w.alloc (Obj.cells #[.slice none 0 0, .int .i64 (safe : Int)] 76)).drew.heap.size → ¬ S k → w''.heap[k]? = (w.alloc (Obj.cells #[.slice none 0 0, .int .i64 (safe : Int)] 76)).drew.heap[k]?) := hput; clear hput)
      | (go_at_call 37; refine HPut.out.mono ?_; rintro e w3 ⟨rfl, hA, hbx⟩; have hcC : w3.cell? ⟨w.heap.size, 0, none⟩ = some (.slice none 0 0) := (World.cell?_of_block (a := ⟨w.heap.size, 0, none⟩) (hbx w.heap.size (by simp) hnS)).trans (by simp); have hcD : w3.cell? ⟨w.heap.size, 1, none⟩ = some (.int .i64 (safe : Int)) := (World.cell?_of_block (a := ⟨w.heap.size, 1, none⟩) (hbx w.heap.size (by simp) hnS)).trans (by simp)))
    all_goals
      go_wp2
      go_ret
      exact ⟨rfl, _, by rw [← HM.out]; exact hA⟩
  | some x =>
    obtain ⟨g, rfl⟩ := hspot x rfl
    clear hspot hnone hnil
    go_enter Tryz.func47, Tryz.ntmps47
    go_wp2
    go_region_held3 (fun w' => w'.cell? ⟨w.heap.size, 0, none⟩ = some (.slice (some ⟨g, 0, none⟩) bs.length cap) ∧ w'.cell? ⟨w.heap.size, 1, none⟩ = some (.int .i64 (safe : Int)))
      (first | exact ⟨hcC, hcD⟩ | exact ⟨hcA, hcB⟩ | (constructor <;> simp))
      (first
      | (go_at_call 38; refine (HCp.out _ (((Below.refl _ _).alloc (Nat.le_refl _) _).drew)).mono ?_; rintro e w2 ⟨v, rfl, ⟨oa2, l2, c2, rfl⟩, hb2, hput⟩; have hcA : w2.cell? ⟨w.heap.size, 0, none⟩ = some (.slice (some ⟨g, 0, none⟩) bs.length cap) := (hb2.cell (p := ⟨w.heap.size, 0, none⟩) (by simp)).trans (by simp); have hcB : w2.cell? ⟨w.heap.size, 1, none⟩ = some (.int .i64 (safe : Int)) := (hb2.cell (p := ⟨w.heap.size, 1, none⟩) (by simp)).trans (by simp); have HPut : Hid (Calls Tryz.prog 37 #[.pointer (some ⟨a, 0, none⟩), .string n, .agg #[.slice oa2 l2 c2, .int .i64 (M : Int)]] w2 fun e w'' => e = .returned (.tuple #[]) ∧ After S w w'' a size (fput fs n.data.toList ⟨.slice oa2 l2 c2, bs.take L, M⟩) ∧ ∀ k, k < (w.alloc (Obj.cells #[.slice (some ⟨g, 0, none⟩) bs.length cap, .int .i64 (safe : Int)] 76)).drew.heap.size → ¬ S k → w''.heap[k]? = (w.alloc (Obj.cells #[.slice (some ⟨g, 0, none⟩) bs.length cap, .int .i64 (safe : Int)] 76)).drew.heap[k]?) := hput; clear hput)
      | (go_at_call 37; refine HPut.out.mono ?_; rintro e w3 ⟨rfl, hA, hbx⟩; have hcC : w3.cell? ⟨w.heap.size, 0, none⟩ = some (.slice (some ⟨g, 0, none⟩) bs.length cap) := (World.cell?_of_block (a := ⟨w.heap.size, 0, none⟩) (hbx w.heap.size (by simp) hnS)).trans (by simp); have hcD : w3.cell? ⟨w.heap.size, 1, none⟩ = some (.int .i64 (safe : Int)) := (World.cell?_of_block (a := ⟨w.heap.size, 1, none⟩) (hbx w.heap.size (by simp) hnS)).trans (by simp)))
    all_goals
      go_wp2
      go_ret
      exact ⟨rfl, _, by rw [← HM.out]; exact hA⟩
def cutE (l : List AF) (n : ByteArray) (i : Int) : Nat := if (alook l n.data.toList).isSome = true then (if 0 ≤ i ∧ i ≤ ((abytes l n.data.toList).length : Int) then 0 else 1) else 8
def cutL (l : List AF) (n : ByteArray) (i : Int) : List AF :=
  if (alook l n.data.toList).isSome = true ∧ 0 ≤ i ∧ i ≤ ((abytes l n.data.toList).length : Int) then aput l ⟨n.data.toList, (abytes l n.data.toList).take i.toNat, min (asafe l n.data.toList) i.toNat⟩ else l

theorem cutA {w : World} {S : Nat → Prop} {a size : Nat} {l : List AF} (h : DiskA w S a size l) (n : ByteArray) (hn : n.size ≤ maxLen) (i : Int) :
    Calls Tryz.prog 47 #[.pointer (some ⟨a, 0, none⟩), .string n, .int .i64 i] w fun e w' => e = .returned (.int .i64 (cutE l n i : Int)) ∧ AfterA S w w' a size (cutL l n i) := by
  obtain ⟨mo, fs, hd, rfl⟩ := h
  unfold cutE cutL
  rw [asome_abs, abytes_abs, asafe_abs]
  cases hf : flook fs n.data.toList with
  | none =>
    simp only [Option.isSome_none, Bool.false_eq_true, false_and, if_false]
    exact (cut_no hd n hn i (by rw [hf]; rfl)).mono (fun e w' ⟨he, hb⟩ => ⟨by rw [he]; rfl, AfterA.same ⟨mo, fs, hd, rfl⟩ hb⟩)
  | some f =>
    have e1 : bsAt fs n.data.toList = f.bs := by unfold bsAt; rw [hf]
    have e2 : safeAt fs n.data.toList = f.safe := by unfold safeAt; rw [hf]
    simp only [Option.isSome_some, true_and, if_true]
    by_cases hi : 0 ≤ i ∧ i ≤ ((bsAt fs n.data.toList).length : Int)
    · rw [if_pos hi, if_pos hi]
      obtain ⟨L, rfl⟩ := Int.eq_ofNat_of_zero_le hi.1
      rw [e1] at hi ⊢
      refine (cut_yes hd n hn L f hf (by omega)).mono (fun e w' ⟨he, v, hA⟩ => ⟨by rw [he]; rfl, hA.abs' ?_⟩)
      rw [abs_fput, e2, Int.toNat_natCast]
    · rw [if_neg hi, if_neg hi]
      exact (cut_arg hd n hn i (by rw [hf]; rfl) (by omega)).mono (fun e w' ⟨he, hb⟩ => ⟨by rw [he]; rfl, AfterA.same ⟨mo, fs, hd, rfl⟩ hb⟩)

end Go.Proofs.YtclldpecbocclaaGreat

