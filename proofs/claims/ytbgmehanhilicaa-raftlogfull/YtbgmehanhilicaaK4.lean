/- Replace of the disk. -/
import Derived.Test.YtbgmehanhilicaaK3
namespace Go.Proofs.Ytbgmehanhilicaa
open Go.RowKit Go.Maps Go.Sort
set_option maxRecDepth 100000
set_option linter.unusedSimpArgs false
set_option linter.unusedVariables false

set_option maxHeartbeats 800000 in
theorem replace_ok {w : World} {S : Nat → Prop} {a size : Nat} {mo : Option Nat} {fs : List (List UInt8 × FileE)} (h : DiskM w S a size mo fs) (n b : ByteArray) (hn : n.size ≤ maxLen) (hname : nameB n = true)
    (hadm : (flook fs n.data.toList).isSome = true ∨ fs.length < 256) (hfit : b.size ≤ size - total fs + (bsAt fs n.data.toList).length) :
    Calls Try.prog 25 #[.pointer (some ⟨a, 0, none⟩), .string n, .string b] w fun e w' => e = .returned (.int .i64 0) ∧ ∃ f : FileE, f.bs = b.data.toList ∧ f.safe = b.size ∧ After S w w' a size (fput fs n.data.toList f) := by
  have hbsz : (b.data.toList).length = b.size := rfl
  have hsm := h.small
  have hroom := h.room
  have htl := total_fdel_le fs n.data.toList
  rw [lenAt_eq] at htl
  have HA := admit_ok h n hn hname hadm
  have HF : Hid (∀ W, Below w.heap.size w W → Calls Try.prog 41 #[.pointer (some ⟨a, 0, none⟩)] W fun e w' => e = .returned (.int .i64 ((size - total fs : Nat) : Int)) ∧ Below w.heap.size w w') := fun W hW =>
    (free_any (h.under hW)).mono (fun e w' ⟨h1, h2⟩ => ⟨h1, hW.trans (h2.mono hW.size)⟩)
  have HZ : Hid (∀ W, Below w.heap.size w W → Calls Try.prog 42 #[.pointer (some ⟨a, 0, none⟩), .string n] W fun e w' => e = .returned (.int .i64 ((bsAt fs n.data.toList).length : Int)) ∧ w' = W) := fun W hW => size_any (h.under hW) n hn
  have HP : Hid (∀ W, Below w.heap.size w W → Calls Try.prog 43 #[.pointer (some ⟨a, 0, none⟩), .string n, .agg #[.slice (some ⟨W.heap.size, 0, none⟩) b.size (grownCap W b.size 0 5), .int .i64 (b.size : Int)]] (Lib.bytesWorld W 5 b)
      fun e w' => e = .returned (.tuple #[]) ∧ ∃ f : FileE, f.bs = b.data.toList ∧ f.safe = b.size ∧ After S w w' a size (fput fs n.data.toList f)) := by
    intro W hW
    have hb1 := conv_below W b
    have hW1 : Below w.heap.size w (Lib.bytesWorld W 5 b) := hW.trans (hb1.mono hW.size)
    have hd : DiskM (Lib.bytesWorld W 5 b) (fun k => S k ∨ k = W.heap.size) a size mo fs := (h.under hW1).more (fun k hk => .inl hk) (fun k hk => by
      have hs := Lib.bytesWorld_size W 5 b
      have := hW.size
      rcases hk with hk | rfl
      · have := h.below k hk; omega
      · omega)
    have := put_any hd n hn ⟨.slice (some ⟨W.heap.size, 0, none⟩) b.size (grownCap W b.size 0 5), b.data.toList, b.size⟩ (bytesAt_conv W b (by omega) _ (.inr rfl)) (Nat.le_refl _)
      (fun p hp _ k hk hq => by
        have h1 := ((h.owns p hp).1.lt k hq).2
        have h2 := hW.size
        simp [Value.ownBlock] at hk
        omega) (by rw [total_fput]; simp only; omega) (few_fput _ hadm h.few)
    refine this.mono (fun e w' ⟨h1, h2⟩ => ⟨h1, ⟨.slice (some ⟨W.heap.size, 0, none⟩) b.size (grownCap W b.size 0 5), b.data.toList, b.size⟩, rfl, rfl, ?_⟩)
    refine After.then (Keeps.of_below hW1) (fun k hk => ?_) (fun k hk => .inl hk) h2
    rcases hk with hk | rfl
    · exact .inl hk
    · exact .inr hW.size
  have hcv := fun W => Lib.run_convert_string_bytes (P := Try.prog) W 9 53 5 b Try.underlying9 Try.underlying53 Try.underlying5
  have hlt : ¬ (((size - total fs : Nat) : Int) + ((bsAt fs n.data.toList).length : Int) < (b.size : Int)) := by omega
  have HA2 : Hid (Calls Try.prog 40 #[.pointer (some ⟨a, 0, none⟩), .string n] w fun e w' => e = .returned (.int .i64 0) ∧ Below w.heap.size w w') := HA
  have hl1 : (bsAt fs n.data.toList).length ≤ 16777216 := by omega
  have hl2 : size - total fs ≤ 16777216 := by omega
  clear h HA
  go_enter Try.func25, Try.ntmps25
  go_wp2_with (go_at_call 40; refine HA2.out.mono ?_; rintro e w1 ⟨rfl, hb1⟩)
  go_wp2_with (go_at_call 41; refine (HF.out _ hb1).mono ?_; rintro e w2 ⟨rfl, hb2⟩)
  go_wp2_with (go_at_call 42; refine (HZ.out _ hb2).mono ?_; rintro e w3 ⟨rfl, rfl⟩)
  go_wp2_with (go_at_call 43; refine (HP.out _ hb2).mono ?_; rintro e w4 ⟨rfl, hA⟩)
  go_ret
  exact ⟨rfl, hA⟩

set_option maxHeartbeats 400000 in
theorem replace_full {w : World} {S : Nat → Prop} {a size : Nat} {mo : Option Nat} {fs : List (List UInt8 × FileE)} (h : DiskM w S a size mo fs) (n b : ByteArray) (hn : n.size ≤ maxLen) (hb : b.size ≤ maxLen) (hname : nameB n = true)
    (hadm : (flook fs n.data.toList).isSome = true ∨ fs.length < 256) (hfit : size - total fs + (bsAt fs n.data.toList).length < b.size) :
    Calls Try.prog 25 #[.pointer (some ⟨a, 0, none⟩), .string n, .string b] w fun e w' => e = .returned (.int .i64 7) ∧ Below w.heap.size w w' := by
  unfold maxLen at hb
  have hsm := h.small
  have hroom := h.room
  have htl := total_fdel_le fs n.data.toList
  rw [lenAt_eq] at htl
  have HA : Hid (Calls Try.prog 40 #[.pointer (some ⟨a, 0, none⟩), .string n] w fun e w' => e = .returned (.int .i64 0) ∧ Below w.heap.size w w') := admit_ok h n hn hname hadm
  have HF : Hid (∀ W, Below w.heap.size w W → Calls Try.prog 41 #[.pointer (some ⟨a, 0, none⟩)] W fun e w' => e = .returned (.int .i64 ((size - total fs : Nat) : Int)) ∧ Below w.heap.size w w') := fun W hW =>
    (free_any (h.under hW)).mono (fun e w' ⟨h1, h2⟩ => ⟨h1, hW.trans (h2.mono hW.size)⟩)
  have HZ : Hid (∀ W, Below w.heap.size w W → Calls Try.prog 42 #[.pointer (some ⟨a, 0, none⟩), .string n] W fun e w' => e = .returned (.int .i64 ((bsAt fs n.data.toList).length : Int)) ∧ w' = W) := fun W hW => size_any (h.under hW) n hn
  have hlt : (((size - total fs : Nat) : Int) + ((bsAt fs n.data.toList).length : Int) < (b.size : Int)) := by omega
  have hl1 : (bsAt fs n.data.toList).length ≤ 16777216 := by omega
  have hl2 : size - total fs ≤ 16777216 := by omega
  clear h
  go_enter Try.func25, Try.ntmps25
  go_wp2_with (go_at_call 40; refine HA.out.mono ?_; rintro e w1 ⟨rfl, hb1⟩)
  go_wp2_with (go_at_call 41; refine (HF.out _ hb1).mono ?_; rintro e w2 ⟨rfl, hb2⟩)
  go_wp2_with (go_at_call 42; refine (HZ.out _ hb2).mono ?_; rintro e w3 ⟨rfl, rfl⟩)
  go_ret
  exact ⟨rfl, hb2⟩

set_option maxHeartbeats 400000 in
theorem replace_not {w : World} {S : Nat → Prop} {a size : Nat} {mo : Option Nat} {fs : List (List UInt8 × FileE)} (h : DiskM w S a size mo fs) (n b : ByteArray) (hn : n.size ≤ maxLen) (hE : admE (abs fs) n ≠ 0) :
    Calls Try.prog 25 #[.pointer (some ⟨a, 0, none⟩), .string n, .string b] w fun e w' => e = .returned (.int .i64 (admE (abs fs) n : Int)) ∧ Below w.heap.size w w' := by
  have HA : Hid (Calls Try.prog 40 #[.pointer (some ⟨a, 0, none⟩), .string n] w fun e w' => e = .returned (.int .i64 (admE (abs fs) n : Int)) ∧ Below w.heap.size w w') := admit_any h n hn
  generalize admE (abs fs) n = E at *
  have hne : (((E : Nat) : Int) != 0) = true := by simp; omega
  clear h hE
  go_enter Try.func25, Try.ntmps25
  go_wp2_with (go_at_call 40; refine HA.out.mono ?_; rintro e w1 ⟨rfl, hb1⟩)
  go_ret
  exact ⟨rfl, hb1⟩

theorem replaceA {w : World} {S : Nat → Prop} {a size : Nat} {l : List AF} (h : DiskA w S a size l) (n b : ByteArray) (hn : n.size ≤ maxLen) (hb : b.size ≤ maxLen) :
    Calls Try.prog 25 #[.pointer (some ⟨a, 0, none⟩), .string n, .string b] w fun e w' => e = .returned (.int .i64 (repE size l n b : Int)) ∧ AfterA S w w' a size (repL size l n b) := by
  obtain ⟨mo, fs, hd, rfl⟩ := h
  unfold repE repL
  rw [total_abs, abytes_abs]
  by_cases hE : admE (abs fs) n = 0
  · obtain ⟨h1, h2⟩ := admE_zero hE
    rw [if_pos hE]
    by_cases hf : b.size ≤ size - total fs + (bsAt fs n.data.toList).length
    · rw [if_pos hf, if_pos ⟨hE, hf⟩]
      refine (replace_ok hd n b hn h1 h2 hf).mono (fun e w' ⟨he, f, hf1, hf2, hA⟩ => ⟨by rw [he]; rfl, hA.abs' ?_⟩)
      rw [abs_fput, hf1, hf2]
    · rw [if_neg hf, if_neg (fun h => hf h.2)]
      exact (replace_full hd n b hn hb h1 h2 (by omega)).mono (fun e w' ⟨he, hb⟩ => ⟨by rw [he]; rfl, AfterA.same ⟨mo, fs, hd, rfl⟩ hb⟩)
  · rw [if_neg hE, if_neg (fun h => hE h.1)]
    exact (replace_not hd n b hn hE).mono (fun e w' ⟨he, hb⟩ => ⟨he, AfterA.same ⟨mo, fs, hd, rfl⟩ hb⟩)

end Go.Proofs.Ytbgmehanhilicaa

/- What Cut, Rename and Remove do. -/
namespace Go.Proofs.Ytbgmehanhilicaa
open Go.RowKit Go.Maps Go.Sort
open Go.WideMaps (keyOf_string_mk)
set_option maxRecDepth 100000
set_option linter.unusedSimpArgs false
set_option linter.unusedVariables false

theorem dmap_del (fs : List (List UInt8 × FileE)) (n : List UInt8) : (dmap fs).del (.string n) = dmap (fdel fs n) := by
  show DataW.map ((fs.map fun p => (Lit.string p.1, (DataW.held p.2.val : DataW Value))).filter (fun p => !p.1.sameKey (.string n))) = _
  rw [filter_dmap]
  rfl

theorem mem_fdel {fs : List (List UInt8 × FileE)} {n : List UInt8} {p : List UInt8 × FileE} : p ∈ fdel fs n ↔ p ∈ fs ∧ p.1 ≠ n := by
  unfold fdel
  simp

/-- A disk whose map has lost a name. -/
theorem DiskM.deleted {w w1 : World} {S : Nat → Prop} {a size b : Nat} {fs : List (List UInt8 × FileE)} (h : DiskM w S a size (some b) fs) (n : List UInt8) (hown : w1.ownsMap Try.prog 9 Rh b fs.length (dmap (fdel fs n))) (hg : w.grownBy w1 (some b)) : DiskM w1 S a size (some b) (fdel fs n) := by
  have hmb : ∃ es clock, w.heap[b]? = some (.map es clock) := by obtain ⟨es, clock, e, _⟩ := (show w.ownsMap Try.prog 9 Rh b fs.length (dmap fs) from h.files); exact ⟨es, clock, e⟩
  obtain ⟨es, clock, hmb⟩ := hmb
  have hab : a ≠ b := fun e => by rw [← e, h.cells] at hmb; cases hmb
  have hblk : ∀ k, k < w.heap.size → k ≠ b → w1.heap[k]? = w.heap[k]? := fun k hk hne => hg.block k hk (by simpa using hne)
  have ht := total_fdel_le fs n
  refine ⟨fun k hk => Nat.lt_of_lt_of_le (h.below k hk) hg.size, h.self, (hblk a (h.below a h.self) hab).trans h.cells, ?_, h.mapS, fun p hp => ?_, List.Pairwise.filter _ h.apart, by have := h.room; omega, h.small, by have := h.few; have := len_fdel_le fs n; omega⟩
  · have := tight hown
    rw [dmap_size] at this
    exact this
  · have hp1 := (h.owns p (mem_fdel.1 hp).1)
    exact ⟨hp1.1.kept (fun _ hk => hk) (fun k hk => hblk k (hp1.1.lt k hk).2 (fun e => by
      obtain ⟨cur, mk, hh⟩ := hp1.1.block k hk
      rw [e, hmb] at hh; cases hh)), hp1.2⟩

/-- Cut's two callees. -/
theorem cut_copy {wr W : World} {S : Nat → Prop} {a size : Nat} {mo : Option Nat} {fs : List (List UInt8 × FileE)} (h : DiskM wr S a size mo fs) (hW : Below wr.heap.size wr W) {n : ByteArray} (hn : n.size ≤ maxLen) {bs : List UInt8} {safe : Nat}
    {oa : Option Addr} {capp : Nat} (hf : flook fs n.data.toList = some ⟨.slice oa bs.length capp, bs, safe⟩) (L M : Nat) (hL : L ≤ bs.length) (hM : M ≤ L) :
    Calls Try.prog 62 #[.slice oa L capp] W fun e w' => ∃ v, e = .returned v ∧ (∃ oa l c, v = .slice oa l c) ∧ Below W.heap.size W w' ∧
      Calls Try.prog 43 #[.pointer (some ⟨a, 0, none⟩), .string n, .agg #[v, .int .i64 (M : Int)]] w' fun e w'' => e = .returned (.tuple #[]) ∧ After S wr w'' a size (fput fs n.data.toList ⟨v, bs.take L, M⟩) ∧ ∀ k, k < W.heap.size → ¬ S k → w''.heap[k]? = W.heap[k]? := by
  have hB := (h.owns _ (flook_mem hf)).1
  simp only at hB
  have hsome : (flook fs n.data.toList).isSome = true := by rw [hf]; rfl
  have ht := total_fdel_le fs n.data.toList
  have hle : lenAt fs n.data.toList = bs.length := by unfold lenAt; rw [hf]
  have hroom := h.room
  have hsm := h.small
  have hlt : (bs.take L).length = L := by rw [List.length_take]; omega
  have hBW := hB.kept (w' := W) (S' := S) (fun _ hk => hk) (fun k hk => hW.block k (hB.lt k hk).2)
  have hsrc : Src W oa (bs.take L) ∧ (oa = none → capp = 0) := by
    rcases hB with ⟨e, rfl⟩ | ⟨g, cap', cur, mk, e, _⟩
    · cases e; exact ⟨.inl ⟨rfl, by simp⟩, fun _ => rfl⟩
    · cases e
      refine ⟨.inr ⟨g, rfl, fun i hi => ?_⟩, fun e => by cases e⟩
      rw [hBW.cell i (by omega)]
      simp
  have hc := copied_any W oa capp (bs.take L) hsrc.1 (by omega) hsrc.2
  rw [hlt] at hc
  refine hc.mono (fun e w' ⟨v, h1, h2, h3⟩ => ?_)
  have hW' : Below wr.heap.size wr w' := hW.trans (h3.mono hW.size)
  have hshv : ∃ oa l c, v = .slice oa l c := by obtain ⟨oa, c, e⟩ := h2.shape; exact ⟨oa, _, c, e⟩
  refine ⟨v, h1, hshv, h3, ?_⟩
  have hd : DiskM w' (fun k => S k ∨ (W.heap.size ≤ k ∧ k < w'.heap.size)) a size mo fs := (h.under hW').more (fun k hk => .inl hk) (fun k hk => by
    rcases hk with hk | hk
    · have := h.below k hk; have := hW'.size; omega
    · exact hk.2)
  have := put_any hd n hn ⟨v, bs.take L, M⟩ (h2.kept (fun k hk => .inr hk) (fun _ _ => rfl)) (by simp only; omega)
    (fun p hp hne k hk hq => by
      have h4 := ((h.owns p hp).1.lt k hq).2
      have h5 := (h2.lt k hk).1.1
      have := hW.size
      omega) (by rw [total_fput]; simp only; omega) (few_fput _ (.inl hsome) h.few)
  refine this.mono (fun e w'' ⟨h1, h2⟩ => ⟨h1, ?_, fun k hk hS => ?_⟩)
  · refine After.then (Keeps.of_below hW') (fun k hk => ?_) (fun k hk => .inl hk) h2
    rcases hk with hk | hk
    · exact .inl hk
    · exact .inr (by have := hW.size; omega)
  · obtain ⟨_, _, _, _, _, hkp⟩ := h2
    exact (hkp.block k (Nat.lt_of_lt_of_le hk h3.size) (fun h => by rcases h with h | h; exact hS h; omega)).trans (h3.block k hk)

set_option maxHeartbeats 400000 in
theorem cut_no {w : World} {S : Nat → Prop} {a size : Nat} {mo : Option Nat} {fs : List (List UInt8 × FileE)} (h : DiskM w S a size mo fs) (n : ByteArray) (hn : n.size ≤ maxLen) (i : Int) (hs : (flook fs n.data.toList).isSome = false) :
    Calls Try.prog 50 #[.pointer (some ⟨a, 0, none⟩), .string n, .int .i64 i] w fun e w' => e = .returned (.int .i64 8) ∧ Below w.heap.size w w' := by
  have c1 := h.c1
  have hl := h.files.look_ok n hn
  obtain ⟨oa, cap, e, hb, _⟩ := h.at_name n.data.toList
  rw [e, hs] at hl
  clear h e hs hb
  go_enter Try.func50, Try.ntmps50
  go_wp2
  go_ret
  exact ⟨rfl, (Below.refl _ _).alloc (Nat.le_refl _) _⟩

set_option maxHeartbeats 400000 in
theorem cut_arg {w : World} {S : Nat → Prop} {a size : Nat} {mo : Option Nat} {fs : List (List UInt8 × FileE)} (h : DiskM w S a size mo fs) (n : ByteArray) (hn : n.size ≤ maxLen) (i : Int) (hs : (flook fs n.data.toList).isSome = true) (hi : i < 0 ∨ ((bsAt fs n.data.toList).length : Int) < i) :
    Calls Try.prog 50 #[.pointer (some ⟨a, 0, none⟩), .string n, .int .i64 i] w fun e w' => e = .returned (.int .i64 1) ∧ Below w.heap.size w w' := by
  have c1 := h.c1
  have hl := h.files.look_ok n hn
  obtain ⟨oa, cap, e, hb, _⟩ := h.at_name n.data.toList
  rw [e, hs] at hl
  clear h e hs hb
  by_cases hneg : i < 0
  · clear hi
    go_enter Try.func50, Try.ntmps50
    go_wp2
    go_ret
    exact ⟨rfl, (Below.refl _ _).alloc (Nat.le_refl _) _⟩
  · have hgt : ((bsAt fs n.data.toList).length : Int) < i := by omega
    clear hi
    go_enter Try.func50, Try.ntmps50
    go_wp2
    go_ret
    exact ⟨rfl, (Below.refl _ _).alloc (Nat.le_refl _) _⟩

set_option maxHeartbeats 1600000 in
theorem cut_yes {w : World} {S : Nat → Prop} {a size : Nat} {mo : Option Nat} {fs : List (List UInt8 × FileE)} (h : DiskM w S a size mo fs) (n : ByteArray) (hn : n.size ≤ maxLen) (L : Nat) (f : FileE) (hf : flook fs n.data.toList = some f) (hL : L ≤ f.bs.length) :
    Calls Try.prog 50 #[.pointer (some ⟨a, 0, none⟩), .string n, .int .i64 (L : Int)] w fun e w' => e = .returned (.int .i64 0) ∧ ∃ v, After S w w' a size (fput fs n.data.toList ⟨v, f.bs.take L, min f.safe L⟩) := by
  have c1 := h.c1
  have hl := h.files.look_ok n hn
  have hbf := h.owns _ (flook_mem hf)
  have hsome : (flook fs n.data.toList).isSome = true := by rw [hf]; rfl
  obtain ⟨sv, bs, safe⟩ := f
  simp only at hbf hL ⊢
  obtain ⟨oa, cap, e⟩ := hbf.1.shape
  subst e
  have ev : fval fs n.data.toList = .agg #[.slice oa bs.length cap, .int .i64 (safe : Int)] := by unfold fval; rw [hf]; rfl
  rw [ev, hsome] at hl
  have hcap : bs.length ≤ cap ∧ cap ≤ 9223372036854775807 := by
    rcases hbf.1 with ⟨e, e2⟩ | ⟨g', cap', cur, mk, e, _, _, h3, h4, _⟩
    · subst e2; cases e; simp
    · cases e; unfold maxLen at h4; exact ⟨h3, by omega⟩
  have hcap1 := hcap.1
  have hcap2 := hcap.2
  obtain ⟨M, hM⟩ : ∃ M : Nat, M = min safe L := ⟨_, rfl⟩
  have hmin : min (safe : Int) (L : Int) = (M : Int) := by omega
  have hneg : ¬ ((L : Int) < 0) := by omega
  have hgt : ¬ ((bs.length : Int) < (L : Int)) := by omega
  have hLc : L ≤ cap := by omega
  have hnone : oa = none → L = 0 := fun e => by
    rcases hbf.1 with ⟨_, e2⟩ | ⟨g', cap', cur, mk, e', _⟩
    · subst e2; simpa using hL
    · cases e'; cases e
  have hnil : oa = none → cap = 0 ∧ bs = [] := fun e => by
    rcases hbf.1 with ⟨e1, e2⟩ | ⟨g', cap', cur, mk, e', _⟩
    · rw [e] at e1; simp at e1; exact ⟨e1.2, e2⟩
    · cases e'; cases e
  have hnS : ¬ S w.heap.size := fun hS => by have := h.below _ hS; omega
  have HCp : Hid (∀ W, Below w.heap.size w W → Calls Try.prog 62 #[.slice oa L cap] W fun e w' => ∃ v, e = .returned v ∧ (∃ oa l c, v = .slice oa l c) ∧ Below W.heap.size W w' ∧
      Calls Try.prog 43 #[.pointer (some ⟨a, 0, none⟩), .string n, .agg #[v, .int .i64 (M : Int)]] w' fun e w'' => e = .returned (.tuple #[]) ∧ After S w w'' a size (fput fs n.data.toList ⟨v, bs.take L, M⟩) ∧ ∀ k, k < W.heap.size → ¬ S k → w''.heap[k]? = W.heap[k]?) := fun W hW =>
    cut_copy h hW hn hf L M hL (by omega)
  have HM : Hid (M = min safe L) := hM
  have hspot : ∀ x, oa = some x → ∃ g, x = ⟨g, 0, none⟩ := fun x e => by
    rcases hbf.1 with ⟨e1, _⟩ | ⟨g', cap', cur, mk, e', _⟩
    · rw [e] at e1; cases e1
    · rw [e] at e'; cases e'; exact ⟨_, rfl⟩
  clear h hbf ev hf hsome hcap hM
  cases oa with
  | none =>
    obtain ⟨rfl, rfl⟩ := hnil rfl
    have hL0 := hnone rfl
    subst hL0
    have HCp' : Hid (∀ W, Below w.heap.size w W → Calls Try.prog 62 #[.slice none 0 0] W fun e w' => ∃ v, e = .returned v ∧ (∃ oa l c, v = .slice oa l c) ∧ Below W.heap.size W w' ∧
      Calls Try.prog 43 #[.pointer (some ⟨a, 0, none⟩), .string n, .agg #[v, .int .i64 (M : Int)]] w' fun e w'' => e = .returned (.tuple #[]) ∧ After S w w'' a size (fput fs n.data.toList ⟨v, [], M⟩) ∧ ∀ k, k < W.heap.size → ¬ S k → w''.heap[k]? = W.heap[k]?) := HCp.out
    have hl' : (Instr.lookup 58 (.map mo) (.string n) true).run Try.prog w = .ok (.tuple #[.agg #[.slice none 0 0, .int .i64 (safe : Int)], .bool true]) w := hl
    have hmin' : min (safe : Int) 0 = (M : Int) := by simpa using hmin
    have hnot : ¬ ((0 : Int) < 0) := by omega
    clear hspot hnone hnil HCp hl hmin hneg hgt hLc hcap1 hcap2 hL
    show Calls Try.prog 50 #[.pointer (some ⟨a, 0, none⟩), .string n, .int .i64 0] w fun e w' => e = .returned (.int .i64 0) ∧ ∃ v, After S w w' a size (fput fs n.data.toList ⟨v, [], min safe 0⟩)
    go_enter Try.func50, Try.ntmps50
    go_wp2
    go_region_held3 (fun w' => w'.cell? ⟨w.heap.size, 0, none⟩ = some (.slice none 0 0) ∧ w'.cell? ⟨w.heap.size, 1, none⟩ = some (.int .i64 (safe : Int)))
      (first | exact ⟨hcC, hcD⟩ | exact ⟨hcA, hcB⟩ | (constructor <;> simp))
      (first
      | (go_at_call 62; refine (HCp'.out _ (((Below.refl _ _).alloc (Nat.le_refl _) _).drew)).mono ?_; rintro e w2 ⟨v, rfl, ⟨oa2, l2, c2, rfl⟩, hb2, hput⟩; have hcA : w2.cell? ⟨w.heap.size, 0, none⟩ = some (.slice none 0 0) := (hb2.cell (p := ⟨w.heap.size, 0, none⟩) (by simp)).trans (by simp); have hcB : w2.cell? ⟨w.heap.size, 1, none⟩ = some (.int .i64 (safe : Int)) := (hb2.cell (p := ⟨w.heap.size, 1, none⟩) (by simp)).trans (by simp); have HPut : Hid (Calls Try.prog 43 #[.pointer (some ⟨a, 0, none⟩), .string n, .agg #[.slice oa2 l2 c2, .int .i64 (M : Int)]] w2 fun e w'' => e = .returned (.tuple #[]) ∧ After S w w'' a size (fput fs n.data.toList ⟨.slice oa2 l2 c2, ([] : List UInt8), M⟩) ∧ ∀ k, k < (w.alloc (Obj.cells #[.slice none 0 0, .int .i64 (safe : Int)] 78)).drew.heap.size → ¬ S k → w''.heap[k]? = (w.alloc (Obj.cells #[.slice none 0 0, .int .i64 (safe : Int)] 78)).drew.heap[k]?) := hput; clear hput)
      | (go_at_call 43; refine HPut.out.mono ?_; rintro e w3 ⟨rfl, hA, hbx⟩; have hcC : w3.cell? ⟨w.heap.size, 0, none⟩ = some (.slice none 0 0) := (World.cell?_of_block (a := ⟨w.heap.size, 0, none⟩) (hbx w.heap.size (by simp) hnS)).trans (by simp); have hcD : w3.cell? ⟨w.heap.size, 1, none⟩ = some (.int .i64 (safe : Int)) := (World.cell?_of_block (a := ⟨w.heap.size, 1, none⟩) (hbx w.heap.size (by simp) hnS)).trans (by simp)))
    all_goals
      go_wp2
      go_ret
      exact ⟨rfl, _, by rw [← HM.out]; exact hA⟩
  | some x =>
    obtain ⟨g, rfl⟩ := hspot x rfl
    clear hspot hnone hnil
    go_enter Try.func50, Try.ntmps50
    go_wp2
    go_region_held3 (fun w' => w'.cell? ⟨w.heap.size, 0, none⟩ = some (.slice (some ⟨g, 0, none⟩) bs.length cap) ∧ w'.cell? ⟨w.heap.size, 1, none⟩ = some (.int .i64 (safe : Int)))
      (first | exact ⟨hcC, hcD⟩ | exact ⟨hcA, hcB⟩ | (constructor <;> simp))
      (first
      | (go_at_call 62; refine (HCp.out _ (((Below.refl _ _).alloc (Nat.le_refl _) _).drew)).mono ?_; rintro e w2 ⟨v, rfl, ⟨oa2, l2, c2, rfl⟩, hb2, hput⟩; have hcA : w2.cell? ⟨w.heap.size, 0, none⟩ = some (.slice (some ⟨g, 0, none⟩) bs.length cap) := (hb2.cell (p := ⟨w.heap.size, 0, none⟩) (by simp)).trans (by simp); have hcB : w2.cell? ⟨w.heap.size, 1, none⟩ = some (.int .i64 (safe : Int)) := (hb2.cell (p := ⟨w.heap.size, 1, none⟩) (by simp)).trans (by simp); have HPut : Hid (Calls Try.prog 43 #[.pointer (some ⟨a, 0, none⟩), .string n, .agg #[.slice oa2 l2 c2, .int .i64 (M : Int)]] w2 fun e w'' => e = .returned (.tuple #[]) ∧ After S w w'' a size (fput fs n.data.toList ⟨.slice oa2 l2 c2, bs.take L, M⟩) ∧ ∀ k, k < (w.alloc (Obj.cells #[.slice (some ⟨g, 0, none⟩) bs.length cap, .int .i64 (safe : Int)] 78)).drew.heap.size → ¬ S k → w''.heap[k]? = (w.alloc (Obj.cells #[.slice (some ⟨g, 0, none⟩) bs.length cap, .int .i64 (safe : Int)] 78)).drew.heap[k]?) := hput; clear hput)
      | (go_at_call 43; refine HPut.out.mono ?_; rintro e w3 ⟨rfl, hA, hbx⟩; have hcC : w3.cell? ⟨w.heap.size, 0, none⟩ = some (.slice (some ⟨g, 0, none⟩) bs.length cap) := (World.cell?_of_block (a := ⟨w.heap.size, 0, none⟩) (hbx w.heap.size (by simp) hnS)).trans (by simp); have hcD : w3.cell? ⟨w.heap.size, 1, none⟩ = some (.int .i64 (safe : Int)) := (World.cell?_of_block (a := ⟨w.heap.size, 1, none⟩) (hbx w.heap.size (by simp) hnS)).trans (by simp)))
    all_goals
      go_wp2
      go_ret
      exact ⟨rfl, _, by rw [← HM.out]; exact hA⟩
def cutE (l : List AF) (n : ByteArray) (i : Int) : Nat := if (alook l n.data.toList).isSome = true then (if 0 ≤ i ∧ i ≤ ((abytes l n.data.toList).length : Int) then 0 else 1) else 8
def cutL (l : List AF) (n : ByteArray) (i : Int) : List AF :=
  if (alook l n.data.toList).isSome = true ∧ 0 ≤ i ∧ i ≤ ((abytes l n.data.toList).length : Int) then aput l ⟨n.data.toList, (abytes l n.data.toList).take i.toNat, min (asafe l n.data.toList) i.toNat⟩ else l

theorem cutA {w : World} {S : Nat → Prop} {a size : Nat} {l : List AF} (h : DiskA w S a size l) (n : ByteArray) (hn : n.size ≤ maxLen) (i : Int) :
    Calls Try.prog 50 #[.pointer (some ⟨a, 0, none⟩), .string n, .int .i64 i] w fun e w' => e = .returned (.int .i64 (cutE l n i : Int)) ∧ AfterA S w w' a size (cutL l n i) := by
  obtain ⟨mo, fs, hd, rfl⟩ := h
  unfold cutE cutL
  rw [asome_abs, abytes_abs, asafe_abs]
  cases hf : flook fs n.data.toList with
  | none =>
    simp only [Option.isSome_none, Bool.false_eq_true, false_and, if_false]
    exact (cut_no hd n hn i (by rw [hf]; rfl)).mono (fun e w' ⟨he, hb⟩ => ⟨by rw [he]; rfl, AfterA.same ⟨mo, fs, hd, rfl⟩ hb⟩)
  | some f =>
    have e1 : bsAt fs n.data.toList = f.bs := by unfold bsAt; rw [hf]
    have e2 : safeAt fs n.data.toList = f.safe := by unfold safeAt; rw [hf]
    simp only [Option.isSome_some, true_and, if_true]
    by_cases hi : 0 ≤ i ∧ i ≤ ((bsAt fs n.data.toList).length : Int)
    · rw [if_pos hi, if_pos hi]
      obtain ⟨L, rfl⟩ := Int.eq_ofNat_of_zero_le hi.1
      rw [e1] at hi ⊢
      refine (cut_yes hd n hn L f hf (by omega)).mono (fun e w' ⟨he, v, hA⟩ => ⟨by rw [he]; rfl, hA.abs' ?_⟩)
      rw [abs_fput, e2, Int.toNat_natCast]
    · rw [if_neg hi, if_neg hi]
      exact (cut_arg hd n hn i (by rw [hf]; rfl) (by omega)).mono (fun e w' ⟨he, hb⟩ => ⟨by rw [he]; rfl, AfterA.same ⟨mo, fs, hd, rfl⟩ hb⟩)

end Go.Proofs.Ytbgmehanhilicaa

/- Append and Sync of the disk. -/
namespace Go.Proofs.Ytbgmehanhilicaa
open Go.RowKit Go.Maps Go.Sort
open Go.WideMaps (keyOf_string_mk)
set_option maxRecDepth 100000
set_option linter.unusedSimpArgs false
set_option linter.unusedVariables false

set_option maxHeartbeats 400000 in
theorem sync_yes {w : World} {S : Nat → Prop} {a size : Nat} {mo : Option Nat} {fs : List (List UInt8 × FileE)} (h : DiskM w S a size mo fs) (n : ByteArray) (hn : n.size ≤ maxLen) (f : FileE) (hf : flook fs n.data.toList = some f) :
    Calls Try.prog 39 #[.pointer (some ⟨a, 0, none⟩), .string n] w fun e w' => e = .returned (.int .i64 0) ∧ After S w w' a size (fput fs n.data.toList ⟨f.sv, f.bs, f.bs.length⟩) := by
  have c1 := h.c1
  have hl := h.files.look_ok n hn
  have hbf := (h.owns _ (flook_mem hf)).1
  have hap := apart_at h.apart hf
  obtain ⟨sv, bs, safe⟩ := f
  simp only at hbf hap ⊢
  obtain ⟨oa, cap, e⟩ := hbf.shape
  subst e
  have ht := total_fdel_le fs n.data.toList
  have hle : lenAt fs n.data.toList = bs.length := by unfold lenAt; rw [hf]
  have hsome : (flook fs n.data.toList).isSome = true := by rw [hf]; rfl
  have hr := h.room
  have hfw := h.few
  have hd := len_fdel_there hsome
  have ev : fval fs n.data.toList = .agg #[.slice oa bs.length cap, .int .i64 (safe : Int)] := by unfold fval; rw [hf]; rfl
  rw [ev, hsome] at hl
  have HP : Hid (∀ W, Below w.heap.size w W → Calls Try.prog 43 #[.pointer (some ⟨a, 0, none⟩), .string n, .agg #[.slice oa bs.length cap, .int .i64 (bs.length : Int)]] W fun e w' => e = .returned (.tuple #[]) ∧ After S w w' a size (fput fs n.data.toList ⟨.slice oa bs.length cap, bs, bs.length⟩)) := by
    intro W hW
    have := put_any (h.under hW) n hn ⟨.slice oa bs.length cap, bs, bs.length⟩ (hbf.kept (fun _ hk => hk) (fun k hk => hW.block k (hbf.lt k hk).2)) (Nat.le_refl _) hap (by rw [total_fput]; simp only; omega) (by rw [len_fput]; omega)
    exact this.mono (fun e w' ⟨h1, h2⟩ => ⟨h1, After.trans_below hW h2⟩)
  clear h hbf ev hf hsome hap
  go_enter Try.func39, Try.ntmps39
  go_wp2_with (go_at_call 43; refine (HP.out _ ((Below.refl _ _).alloc (Nat.le_refl _) _)).mono ?_; rintro e w' ⟨rfl, hA⟩)
  go_ret
  exact ⟨rfl, hA⟩

set_option maxHeartbeats 400000 in
theorem sync_no {w : World} {S : Nat → Prop} {a size : Nat} {mo : Option Nat} {fs : List (List UInt8 × FileE)} (h : DiskM w S a size mo fs) (n : ByteArray) (hn : n.size ≤ maxLen) (hs : (flook fs n.data.toList).isSome = false) :
    Calls Try.prog 39 #[.pointer (some ⟨a, 0, none⟩), .string n] w fun e w' => e = .returned (.int .i64 8) ∧ Below w.heap.size w w' := by
  have c1 := h.c1
  have hl := h.files.look_ok n hn
  obtain ⟨oa, cap, e, hb, _⟩ := h.at_name n.data.toList
  rw [e, hs] at hl
  clear h e hs hb
  go_enter Try.func39, Try.ntmps39
  go_wp2
  go_ret
  exact ⟨rfl, (Below.refl _ _).alloc (Nat.le_refl _) _⟩
set_option maxHeartbeats 800000 in
theorem append_walk {w : World} {a : Nat} {mo : Option Nat} (n b : ByteArray) (free : Nat) (m : Nat) (hm : m = min b.size free) (hfree : free ≤ 16777216) (hbs : b.size ≤ 9223372036854775807) (sv : Value) (safe : Int) (hsv : ∃ oa l c, sv = .slice oa l c)
    (post : Ending → World → Prop)
    (HA : Hid (Calls Try.prog 40 #[.pointer (some ⟨a, 0, none⟩), .string n] w fun e w' => e = .returned (.int .i64 0) ∧ Below w.heap.size w w'))
    (HF : Hid (∀ W, Below w.heap.size w W → Calls Try.prog 41 #[.pointer (some ⟨a, 0, none⟩)] W fun e w' => e = .returned (.int .i64 (free : Int)) ∧ Below w.heap.size w w'))
    (HL : Hid (∀ W, Below w.heap.size w W → (Instr.lookup 58 (.map mo) (.string n) false).run Try.prog W = .ok (.agg #[sv, .int .i64 safe]) W))
    (HC : Hid (∀ W, Below w.heap.size w W → W.cell? ⟨a, 1, none⟩ = some (.map mo)))
    (HR : Hid (∀ W, Below w.heap.size w W → ∃ v' w3, (∃ oa l c, v' = .slice oa l c) ∧ (∀ ty, (Builtin.append_ #[53, 9] ty #[sv, .string (b.extract 0 m)]).run Try.prog (W.alloc (.cells #[sv, .int .i64 safe] 78)).drew = .ok v' w3) ∧
      w3.cell? ⟨W.heap.size, 0, none⟩ = some sv ∧ w3.frozen? ⟨W.heap.size, 0, none⟩ = false ∧ w3.cell? ⟨W.heap.size, 1, none⟩ = some (.int .i64 safe) ∧
      Calls Try.prog 43 #[.pointer (some ⟨a, 0, none⟩), .string n, .agg #[v', .int .i64 safe]] (w3.setCell ⟨W.heap.size, 0, none⟩ v') fun e w' => e = .returned (.tuple #[]) ∧ post (.returned (.int .i64 (if b.size ≤ free then 0 else 7))) w')) :
    Calls Try.prog 51 #[.pointer (some ⟨a, 0, none⟩), .string n, .string b] w post := by
  obtain ⟨oa, l, c, rfl⟩ := hsv
  have hmin : min (b.size : Int) (free : Int) = (m : Int) := by omega
  have hmb : (m : Int) ≤ (b.size : Int) := by omega
  by_cases hle : b.size ≤ free
  · rw [if_pos hle] at HR
    have hlt : ¬ ((m : Int) < (b.size : Int)) := by omega
    clear hm hle
    go_enter Try.func51, Try.ntmps51
    go_wp2_with (go_at_call 40; refine HA.out.mono ?_; rintro e w1 ⟨rfl, hb1⟩)
    go_wp2_with (go_at_call 41; refine (HF.out _ hb1).mono ?_; rintro e w2 ⟨rfl, hb2⟩; have hl := HL.out _ hb2; have hc := HC.out _ hb2; obtain ⟨v', w3, ⟨oa', l', c', hv'⟩, hr, hc3, hf3, hc31, hput⟩ := HR.out _ hb2; subst hv'; have HPut : Hid (Calls Try.prog 43 #[.pointer (some ⟨a, 0, none⟩), .string n, .agg #[.slice oa' l' c', .int .i64 safe]] (w3.setCell ⟨w2.heap.size, 0, none⟩ (.slice oa' l' c')) fun e w' => e = .returned (.tuple #[]) ∧ post (.returned (.int .i64 0)) w') := hput; clear hput; have HRun : Hid (_) := hr; clear hr)
    go_region_law (refine step_append_run rfl (.tmp 28) (.tmp 31) rfl _ _ _ _ (by simp [Act.eval, Act.put]) (by simp [Act.eval, Act.put]) HRun.out ?_)
    go_wp2_with (go_at_call 43; refine HPut.out.mono ?_; rintro e w4 ⟨rfl, hA⟩)
    exact hA
  · rw [if_neg hle] at HR
    have hlt : ((m : Int) < (b.size : Int)) := by omega
    clear hm hle
    go_enter Try.func51, Try.ntmps51
    go_wp2_with (go_at_call 40; refine HA.out.mono ?_; rintro e w1 ⟨rfl, hb1⟩)
    go_wp2_with (go_at_call 41; refine (HF.out _ hb1).mono ?_; rintro e w2 ⟨rfl, hb2⟩; have hl := HL.out _ hb2; have hc := HC.out _ hb2; obtain ⟨v', w3, ⟨oa', l', c', hv'⟩, hr, hc3, hf3, hc31, hput⟩ := HR.out _ hb2; subst hv'; have HPut : Hid (Calls Try.prog 43 #[.pointer (some ⟨a, 0, none⟩), .string n, .agg #[.slice oa' l' c', .int .i64 safe]] (w3.setCell ⟨w2.heap.size, 0, none⟩ (.slice oa' l' c')) fun e w' => e = .returned (.tuple #[]) ∧ post (.returned (.int .i64 7)) w') := hput; clear hput; have HRun : Hid (_) := hr; clear hr)
    go_region_law (refine step_append_run rfl (.tmp 28) (.tmp 31) rfl _ _ _ _ (by simp [Act.eval, Act.put]) (by simp [Act.eval, Act.put]) HRun.out ?_)
    go_wp2_with (go_at_call 43; refine HPut.out.mono ?_; rintro e w4 ⟨rfl, hA⟩)
    exact hA

theorem append_any {w : World} {S : Nat → Prop} {a size : Nat} {mo : Option Nat} {fs : List (List UInt8 × FileE)} (h : DiskM w S a size mo fs) (n b : ByteArray) (hn : n.size ≤ maxLen) (hb : b.size ≤ maxLen) (hname : nameB n = true)
    (hadm : (flook fs n.data.toList).isSome = true ∨ fs.length < 256) :
    Calls Try.prog 51 #[.pointer (some ⟨a, 0, none⟩), .string n, .string b] w fun e w' => e = .returned (.int .i64 (if b.size ≤ size - total fs then 0 else 7)) ∧
      ∃ f : FileE, f.bs = bsAt fs n.data.toList ++ b.data.toList.take (min b.size (size - total fs)) ∧ f.safe = safeAt fs n.data.toList ∧ After S w w' a size (fput fs n.data.toList f) := by
  unfold maxLen at hb
  have hsm := h.small
  have hroom := h.room
  have htl := total_fdel_le fs n.data.toList
  rw [lenAt_eq] at htl
  obtain ⟨f, hf⟩ := atName_exists fs n.data.toList
  obtain ⟨hv, hbs, hsf⟩ := hf.val
  have hB := hf.bytes h
  have hsh : ∃ oa l c, f.sv = .slice oa l c := by obtain ⟨oa, c, e⟩ := hB.1.shape; exact ⟨oa, _, c, e⟩
  have hbl : (b.extract 0 (min b.size (size - total fs))).size = min b.size (size - total fs) := by
    simp
  refine append_walk (w := w) (a := a) (mo := mo) n b (size - total fs) (min b.size (size - total fs)) rfl (by omega) (by omega) f.sv f.safe hsh _ (admit_ok h n hn hname hadm)
    (fun W hW => (free_any (h.under hW)).mono (fun e w' ⟨h1, h2⟩ => ⟨h1, hW.trans (h2.mono hW.size)⟩)) (fun W hW => ?_) (fun W hW => (h.under hW).c1) (fun W hW => ?_)
  · have := (h.under hW).files.look n hn
    rw [hv] at this
    exact this
  · have hbox : Below w.heap.size w (W.alloc (.cells #[f.sv, .int .i64 (f.safe : Int)] 78)).drew := (hW.alloc hW.size _).drew
    have hd := h.under hbox
    obtain ⟨v', w3, hr, hb1, hb2, hg, hloc⟩ := (hf.bytes hd).1.append hd.below (b.extract 0 (min b.size (size - total fs))) (by rw [hbl, ← hbs]; omega) 53
    rw [dextract_take] at hb1
    have hsame : ∀ ty, (Builtin.append_ #[53, 9] ty #[f.sv, .string (b.extract 0 (min b.size (size - total fs)))]).run Try.prog (W.alloc (.cells #[f.sv, .int .i64 (f.safe : Int)] 78)).drew = .ok v' w3 := fun ty => hr
    have hds : (W.alloc (.cells #[f.sv, .int .i64 (f.safe : Int)] 78)).drew.heap.size = W.heap.size + 1 := by simp [size_drew]
    have hown : ∀ k, f.sv.ownBlock = some k → S k ∧ k < w.heap.size := fun k hk => ⟨(hB.1.lt k hk).1, (hB.1.lt k hk).2⟩
    have hbx : w3.heap[W.heap.size]? = some (.cells #[f.sv, .int .i64 (f.safe : Int)] 78) := by
      refine (hg.block W.heap.size (by omega) (fun e => ?_)).trans (heap_alloc_new W _)
      have := (hown _ e.symm).2
      have := hW.size
      omega
    obtain ⟨oa2, c2, e2⟩ := hb1.shape
    have hd3 := hd.appended hf hb2 hg
    refine ⟨v', w3, ⟨oa2, _, c2, e2⟩, hsame, by simp [World.cell?, hbx], by simp [World.frozen?, hbx], by simp [World.cell?, hbx], ?_⟩
    have hsc : ∀ k, k ≠ W.heap.size → (w3.setCell ⟨W.heap.size, 0, none⟩ v').heap[k]? = w3.heap[k]? := fun k hk => Below.heap_setCell w3 _ _ k hk
    have hss : (w3.setCell ⟨W.heap.size, 0, none⟩ v').heap.size = w3.heap.size := by simp [World.setCell]
    have hd4 : DiskM (w3.setCell ⟨W.heap.size, 0, none⟩ v') (fun k => S k ∨ (W.heap.size + 1 ≤ k ∧ k < w3.heap.size)) a size mo fs := by
      refine (hd3.kept (w1 := w3.setCell ⟨W.heap.size, 0, none⟩ v') (fun k hk => hsc k (fun e => ?_)) (by omega)).more (fun k hk => .inl hk) (fun k hk => ?_)
      · have := h.below k hk; have := hW.size; omega
      · rcases hk with hk | hk
        · have := hd3.below k hk; omega
        · omega
    have hb4 : BytesAt (w3.setCell ⟨W.heap.size, 0, none⟩ v') (fun k => S k ∨ (W.heap.size + 1 ≤ k ∧ k < w3.heap.size)) v' (f.bs ++ b.data.toList.take (min b.size (size - total fs))) := by
      refine hb1.kept (fun k hk => by rw [hds] at hk; exact hk) (fun k hk => hsc k (fun e => ?_))
      rcases (hb1.lt k hk).1 with h1 | h1
      · have := h.below k h1; have := hW.size; omega
      · omega
    have hlen4 : (f.bs ++ b.data.toList.take (min b.size (size - total fs))).length = f.bs.length + min b.size (size - total fs) := by
      have : b.data.toList.length = b.size := rfl
      rw [List.length_append, List.length_take, this]; omega
    have := put_any hd4 n hn ⟨v', f.bs ++ b.data.toList.take (min b.size (size - total fs)), f.safe⟩ hb4 (by simp only; have := hB.2; omega)
      (fun p hp hne k hk hq => by
        have hp1 := ((h.owns p hp).1.lt k hq).2
        rcases hloc with e | e
        · exact hf.apart h p hp hne k (e ▸ hk) hq
        · have := e k hk; have := hW.size; omega)
      (by rw [total_fput]; simp only; rw [hlen4, ← hbs]; omega) (few_fput _ hadm h.few)
    refine this.mono (fun e w' ⟨h1, h2⟩ => ⟨h1, rfl, ⟨v', f.bs ++ b.data.toList.take (min b.size (size - total fs)), f.safe⟩, by rw [hbs], hsf.symm, ?_⟩)
    have hk1 : Keeps S w w3 := (Keeps.of_below hbox).trans (T := S) ⟨hg.os, hg.tape, hg.output, hg.size, fun k hk hS => hg.block k hk (fun e => hS (hown k e.symm).1)⟩ (fun x hx => .inl hx)
    have hk2 : Keeps S w (w3.setCell ⟨W.heap.size, 0, none⟩ v') := hk1.trans (T := fun k => k = W.heap.size) ⟨rfl, rfl, rfl, by omega, fun k _ hS => hsc k hS⟩ (fun x hx => .inr (by rw [hx]; exact hW.size))
    refine After.then hk2 (fun k hk => ?_) (fun k hk => .inl hk) h2
    rcases hk with hk | hk
    · exact .inl hk
    · exact .inr (by have := hW.size; omega)
set_option maxHeartbeats 400000 in
theorem append_not {w : World} {S : Nat → Prop} {a size : Nat} {mo : Option Nat} {fs : List (List UInt8 × FileE)} (h : DiskM w S a size mo fs) (n b : ByteArray) (hn : n.size ≤ maxLen) (hE : admE (abs fs) n ≠ 0) :
    Calls Try.prog 51 #[.pointer (some ⟨a, 0, none⟩), .string n, .string b] w fun e w' => e = .returned (.int .i64 (admE (abs fs) n : Int)) ∧ Below w.heap.size w w' := by
  have HA : Hid (Calls Try.prog 40 #[.pointer (some ⟨a, 0, none⟩), .string n] w fun e w' => e = .returned (.int .i64 (admE (abs fs) n : Int)) ∧ Below w.heap.size w w') := admit_any h n hn
  generalize admE (abs fs) n = E at *
  have hne : (((E : Nat) : Int) != 0) = true := by simp; omega
  clear h hE
  go_enter Try.func51, Try.ntmps51
  go_wp2_with (go_at_call 40; refine HA.out.mono ?_; rintro e w1 ⟨rfl, hb1⟩)
  go_ret
  exact ⟨rfl, hb1⟩

theorem appendA {w : World} {S : Nat → Prop} {a size : Nat} {l : List AF} (h : DiskA w S a size l) (n b : ByteArray) (hn : n.size ≤ maxLen) (hb : b.size ≤ maxLen) :
    Calls Try.prog 51 #[.pointer (some ⟨a, 0, none⟩), .string n, .string b] w fun e w' => e = .returned (.int .i64 (appE size l n b : Int)) ∧ AfterA S w w' a size (appL size l n b) := by
  obtain ⟨mo, fs, hd, rfl⟩ := h
  by_cases hE : admE (abs fs) n = 0
  · obtain ⟨h1, h2⟩ := admE_zero hE
    refine (append_any hd n b hn hb h1 h2).mono (fun e w' ⟨he, f, hf1, hf2, hA⟩ => ⟨?_, hA.abs' ?_⟩)
    · rw [he]; unfold appE; rw [if_pos hE, total_abs]; split <;> rfl
    · rw [abs_fput, hf1, hf2]; unfold appL; rw [if_pos hE, abytes_abs, asafe_abs, total_abs]
  · refine (append_not hd n b hn hE).mono (fun e w' ⟨he, hb⟩ => ⟨?_, ?_⟩)
    · rw [he]; unfold appE; rw [if_neg hE]
    · unfold appL; rw [if_neg hE]; exact AfterA.same ⟨mo, fs, hd, rfl⟩ hb

theorem syncA {w : World} {S : Nat → Prop} {a size : Nat} {l : List AF} (h : DiskA w S a size l) (n : ByteArray) (hn : n.size ≤ maxLen) :
    Calls Try.prog 39 #[.pointer (some ⟨a, 0, none⟩), .string n] w fun e w' => e = .returned (.int .i64 (synE l n : Int)) ∧ AfterA S w w' a size (synL l n) := by
  obtain ⟨mo, fs, hd, rfl⟩ := h
  unfold synE synL
  rw [asome_abs, abytes_abs]
  cases hf : flook fs n.data.toList with
  | some f =>
    simp only [Option.isSome_some, if_true]
    refine (sync_yes hd n hn f hf).mono (fun e w' ⟨he, hA⟩ => ⟨by rw [he]; rfl, hA.abs' ?_⟩)
    have e1 : bsAt fs n.data.toList = f.bs := by unfold bsAt; rw [hf]
    rw [abs_fput, e1]
  | none =>
    simp only [Option.isSome_none, Bool.false_eq_true, if_false]
    exact (sync_no hd n hn (by rw [hf]; rfl)).mono (fun e w' ⟨he, hb⟩ => ⟨by rw [he]; rfl, AfterA.same ⟨mo, fs, hd, rfl⟩ hb⟩)

end Go.Proofs.Ytbgmehanhilicaa

