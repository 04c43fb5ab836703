/- Append and Sync of the disk. -/
import Derived.Test.YtclldpecbocclaaGreatK3
import Derived.Test.YtclldpecbocclaaGreatK4
import Derived.Test.YtclldpecbocclaaGreatK0
import Derived.Deep.QuietTactic
import Derived.BigQuiet
namespace Go.Proofs.YtclldpecbocclaaGreat
open Go.RowKit Go.Maps Go.Sort
open Go.WideMaps (keyOf_string_mk)
set_option maxRecDepth 100000
set_option linter.unusedSimpArgs false
set_option linter.unusedVariables false

set_option maxHeartbeats 400000 in
theorem sync_yes {w : World} {S : Nat → Prop} {a size : Nat} {mo : Option Nat} {fs : List (List UInt8 × FileE)} (h : DiskM w S a size mo fs) (n : ByteArray) (hn : n.size ≤ maxLen) (f : FileE) (hf : flook fs n.data.toList = some f) :
    Calls Tryz.prog 43 #[.pointer (some ⟨a, 0, none⟩), .string n] w fun e w' => e = .returned (.int .i64 0) ∧ After S w w' a size (fput fs n.data.toList ⟨f.sv, f.bs, f.bs.length⟩) := by
  have c1 := h.c1
  have hl := h.files.look_ok n hn
  have hbf := (h.owns _ (flook_mem hf)).1
  have hap := apart_at h.apart hf
  obtain ⟨sv, bs, safe⟩ := f
  simp only at hbf hap ⊢
  obtain ⟨oa, cap, e⟩ := hbf.shape
  subst e
  have ht := total_fdel_le fs n.data.toList
  have hle : lenAt fs n.data.toList = bs.length := by unfold lenAt; rw [hf]
  have hsome : (flook fs n.data.toList).isSome = true := by rw [hf]; rfl
  have hr := h.room
  have hfw := h.few
  have hd := len_fdel_there hsome
  have ev : fval fs n.data.toList = .agg #[.slice oa bs.length cap, .int .i64 (safe : Int)] := by unfold fval; rw [hf]; rfl
  rw [ev, hsome] at hl
  have HP : Hid (∀ W, Below w.heap.size w W → Calls Tryz.prog 37 #[.pointer (some ⟨a, 0, none⟩), .string n, .agg #[.slice oa bs.length cap, .int .i64 (bs.length : Int)]] W fun e w' => e = .returned (.tuple #[]) ∧ After S w w' a size (fput fs n.data.toList ⟨.slice oa bs.length cap, bs, bs.length⟩)) := by
    intro W hW
    have := put_any (h.under hW) n hn ⟨.slice oa bs.length cap, bs, bs.length⟩ (hbf.kept (fun _ hk => hk) (fun k hk => hW.block k (hbf.lt k hk).2)) (Nat.le_refl _) hap (by rw [total_fput]; simp only; omega) (by rw [len_fput]; omega)
    exact this.mono (fun e w' ⟨h1, h2⟩ => ⟨h1, After.trans_below hW h2⟩)
  clear h hbf ev hf hsome hap
  go_enter Tryz.func43, Tryz.ntmps43
  go_wp2_with (go_at_call 37; refine (HP.out _ ((Below.refl _ _).alloc (Nat.le_refl _) _)).mono ?_; rintro e w' ⟨rfl, hA⟩)
  go_ret
  exact ⟨rfl, hA⟩

set_option maxHeartbeats 400000 in
theorem sync_no {w : World} {S : Nat → Prop} {a size : Nat} {mo : Option Nat} {fs : List (List UInt8 × FileE)} (h : DiskM w S a size mo fs) (n : ByteArray) (hn : n.size ≤ maxLen) (hs : (flook fs n.data.toList).isSome = false) :
    Calls Tryz.prog 43 #[.pointer (some ⟨a, 0, none⟩), .string n] w fun e w' => e = .returned (.int .i64 8) ∧ Below w.heap.size w w' := by
  have c1 := h.c1
  have hl := h.files.look_ok n hn
  obtain ⟨oa, cap, e, hb, _⟩ := h.at_name n.data.toList
  rw [e, hs] at hl
  clear h e hs hb
  go_enter Tryz.func43, Tryz.ntmps43
  go_wp2
  go_ret
  exact ⟨rfl, (Below.refl _ _).alloc (Nat.le_refl _) _⟩
set_option maxHeartbeats 800000 in
theorem append_walk {w : World} {a : Nat} {mo : Option Nat} (n b : ByteArray) (free : Nat) (m : Nat) (hm : m = min b.size free) (hfree : free ≤ 16777216) (hbs : b.size ≤ 9223372036854775807) (sv : Value) (safe : Int) (hsv : ∃ oa l c, sv = .slice oa l c)
    (post : Ending → World → Prop)
    (HA : Hid (Calls Tryz.prog 50 #[.pointer (some ⟨a, 0, none⟩), .string n] w fun e w' => e = .returned (.int .i64 0) ∧ Below w.heap.size w w'))
    (HF : Hid (∀ W, Below w.heap.size w W → Calls Tryz.prog 46 #[.pointer (some ⟨a, 0, none⟩)] W fun e w' => e = .returned (.int .i64 (free : Int)) ∧ Below w.heap.size w w'))
    (HL : Hid (∀ W, Below w.heap.size w W → (Instr.lookup 57 (.map mo) (.string n) false).run Tryz.prog W = .ok (.agg #[sv, .int .i64 safe]) W))
    (HC : Hid (∀ W, Below w.heap.size w W → W.cell? ⟨a, 1, none⟩ = some (.map mo)))
    (HR : Hid (∀ W, Below w.heap.size w W → ∃ v' w3, (∃ oa l c, v' = .slice oa l c) ∧ (∀ ty, (Builtin.append_ #[74, 9] ty #[sv, .string (b.extract 0 m)]).run Tryz.prog (W.alloc (.cells #[sv, .int .i64 safe] 76)).drew = .ok v' w3) ∧
      w3.cell? ⟨W.heap.size, 0, none⟩ = some sv ∧ w3.frozen? ⟨W.heap.size, 0, none⟩ = false ∧ w3.cell? ⟨W.heap.size, 1, none⟩ = some (.int .i64 safe) ∧
      Calls Tryz.prog 37 #[.pointer (some ⟨a, 0, none⟩), .string n, .agg #[v', .int .i64 safe]] (w3.setCell ⟨W.heap.size, 0, none⟩ v') fun e w' => e = .returned (.tuple #[]) ∧ post (.returned (.int .i64 (if b.size ≤ free then 0 else 7))) w')) :
    Calls Tryz.prog 48 #[.pointer (some ⟨a, 0, none⟩), .string n, .string b] w post := by
  obtain ⟨oa, l, c, rfl⟩ := hsv
  have hmin : min (b.size : Int) (free : Int) = (m : Int) := by omega
  have hmb : (m : Int) ≤ (b.size : Int) := by omega
  by_cases hle : b.size ≤ free
  · rw [if_pos hle] at HR
    have hlt : ¬ ((m : Int) < (b.size : Int)) := by omega
    clear hm hle
    go_enter Tryz.func48, Tryz.ntmps48
    go_wp2_with (go_at_call 50; refine HA.out.mono ?_; rintro e w1 ⟨rfl, hb1⟩)
    go_wp2_with (go_at_call 46; refine (HF.out _ hb1).mono ?_; rintro e w2 ⟨rfl, hb2⟩; have hl := HL.out _ hb2; have hc := HC.out _ hb2; obtain ⟨v', w3, ⟨oa', l', c', hv'⟩, hr, hc3, hf3, hc31, hput⟩ := HR.out _ hb2; subst hv'; have HPut : Hid (Calls Tryz.prog 37 #[.pointer (some ⟨a, 0, none⟩), .string n, .agg #[.slice oa' l' c', .int .i64 safe]] (w3.setCell ⟨w2.heap.size, 0, none⟩ (.slice oa' l' c')) fun e w' => e = .returned (.tuple #[]) ∧ post (.returned (.int .i64 0)) w') := hput; clear hput; have HRun : Hid (_) := hr; clear hr)
    go_region_law (refine step_append_run rfl (.tmp 28) (.tmp 31) rfl _ _ _ _ (by simp [Act.eval, Act.put]) (by simp [Act.eval, Act.put]) HRun.out ?_)
    go_wp2_with (go_at_call 37; refine HPut.out.mono ?_; rintro e w4 ⟨rfl, hA⟩)
    exact hA
  · rw [if_neg hle] at HR
    have hlt : ((m : Int) < (b.size : Int)) := by omega
    clear hm hle
    go_enter Tryz.func48, Tryz.ntmps48
    go_wp2_with (go_at_call 50; refine HA.out.mono ?_; rintro e w1 ⟨rfl, hb1⟩)
    go_wp2_with (go_at_call 46; refine (HF.out _ hb1).mono ?_; rintro e w2 ⟨rfl, hb2⟩; have hl := HL.out _ hb2; have hc := HC.out _ hb2; obtain ⟨v', w3, ⟨oa', l', c', hv'⟩, hr, hc3, hf3, hc31, hput⟩ := HR.out _ hb2; subst hv'; have HPut : Hid (Calls Tryz.prog 37 #[.pointer (some ⟨a, 0, none⟩), .string n, .agg #[.slice oa' l' c', .int .i64 safe]] (w3.setCell ⟨w2.heap.size, 0, none⟩ (.slice oa' l' c')) fun e w' => e = .returned (.tuple #[]) ∧ post (.returned (.int .i64 7)) w') := hput; clear hput; have HRun : Hid (_) := hr; clear hr)
    go_region_law (refine step_append_run rfl (.tmp 28) (.tmp 31) rfl _ _ _ _ (by simp [Act.eval, Act.put]) (by simp [Act.eval, Act.put]) HRun.out ?_)
    go_wp2_with (go_at_call 37; refine HPut.out.mono ?_; rintro e w4 ⟨rfl, hA⟩)
    exact hA

theorem append_any {w : World} {S : Nat → Prop} {a size : Nat} {mo : Option Nat} {fs : List (List UInt8 × FileE)} (h : DiskM w S a size mo fs) (n b : ByteArray) (hn : n.size ≤ maxLen) (hb : b.size ≤ maxLen) (hname : nameB n = true)
    (hadm : (flook fs n.data.toList).isSome = true ∨ fs.length < 256) :
    Calls Tryz.prog 48 #[.pointer (some ⟨a, 0, none⟩), .string n, .string b] w fun e w' => e = .returned (.int .i64 (if b.size ≤ size - total fs then 0 else 7)) ∧
      ∃ f : FileE, f.bs = bsAt fs n.data.toList ++ b.data.toList.take (min b.size (size - total fs)) ∧ f.safe = safeAt fs n.data.toList ∧ After S w w' a size (fput fs n.data.toList f) := by
  unfold maxLen at hb
  have hsm := h.small
  have hroom := h.room
  have htl := total_fdel_le fs n.data.toList
  rw [lenAt_eq] at htl
  obtain ⟨f, hf⟩ := atName_exists fs n.data.toList
  obtain ⟨hv, hbs, hsf⟩ := hf.val
  have hB := hf.bytes h
  have hsh : ∃ oa l c, f.sv = .slice oa l c := by obtain ⟨oa, c, e⟩ := hB.1.shape; exact ⟨oa, _, c, e⟩
  have hbl : (b.extract 0 (min b.size (size - total fs))).size = min b.size (size - total fs) := by
    simp
  refine append_walk (w := w) (a := a) (mo := mo) n b (size - total fs) (min b.size (size - total fs)) rfl (by omega) (by omega) f.sv f.safe hsh _ (admit_ok h n hn hname hadm)
    (fun W hW => (free_any (h.under hW)).mono (fun e w' ⟨h1, h2⟩ => ⟨h1, hW.trans (h2.mono hW.size)⟩)) (fun W hW => ?_) (fun W hW => (h.under hW).c1) (fun W hW => ?_)
  · have := (h.under hW).files.look n hn
    rw [hv] at this
    exact this
  · have hbox : Below w.heap.size w (W.alloc (.cells #[f.sv, .int .i64 (f.safe : Int)] 76)).drew := (hW.alloc hW.size _).drew
    have hd := h.under hbox
    obtain ⟨v', w3, hr, hb1, hb2, hg, hloc⟩ := (hf.bytes hd).1.append hd.below (b.extract 0 (min b.size (size - total fs))) (by rw [hbl, ← hbs]; omega) 74
    rw [dextract_take] at hb1
    have hsame : ∀ ty, (Builtin.append_ #[74, 9] ty #[f.sv, .string (b.extract 0 (min b.size (size - total fs)))]).run Tryz.prog (W.alloc (.cells #[f.sv, .int .i64 (f.safe : Int)] 76)).drew = .ok v' w3 := fun ty => hr
    have hds : (W.alloc (.cells #[f.sv, .int .i64 (f.safe : Int)] 76)).drew.heap.size = W.heap.size + 1 := by simp [size_drew]
    have hown : ∀ k, f.sv.ownBlock = some k → S k ∧ k < w.heap.size := fun k hk => ⟨(hB.1.lt k hk).1, (hB.1.lt k hk).2⟩
    have hbx : w3.heap[W.heap.size]? = some (.cells #[f.sv, .int .i64 (f.safe : Int)] 76) := by
      refine (hg.block W.heap.size (by omega) (fun e => ?_)).trans (heap_alloc_new W _)
      have := (hown _ e.symm).2
      have := hW.size
      omega
    obtain ⟨oa2, c2, e2⟩ := hb1.shape
    have hd3 := hd.appended hf hb2 hg
    refine ⟨v', w3, ⟨oa2, _, c2, e2⟩, hsame, by simp [World.cell?, hbx], by simp [World.frozen?, hbx], by simp [World.cell?, hbx], ?_⟩
    have hsc : ∀ k, k ≠ W.heap.size → (w3.setCell ⟨W.heap.size, 0, none⟩ v').heap[k]? = w3.heap[k]? := fun k hk => Below.heap_setCell w3 _ _ k hk
    have hss : (w3.setCell ⟨W.heap.size, 0, none⟩ v').heap.size = w3.heap.size := by simp [World.setCell]
    have hd4 : DiskM (w3.setCell ⟨W.heap.size, 0, none⟩ v') (fun k => S k ∨ (W.heap.size + 1 ≤ k ∧ k < w3.heap.size)) a size mo fs := by
      refine (hd3.kept (w1 := w3.setCell ⟨W.heap.size, 0, none⟩ v') (fun k hk => hsc k (fun e => ?_)) (by omega)).more (fun k hk => .inl hk) (fun k hk => ?_)
      · have := h.below k hk; have := hW.size; omega
      · rcases hk with hk | hk
        · have := hd3.below k hk; omega
        · omega
    have hb4 : BytesAt (w3.setCell ⟨W.heap.size, 0, none⟩ v') (fun k => S k ∨ (W.heap.size + 1 ≤ k ∧ k < w3.heap.size)) v' (f.bs ++ b.data.toList.take (min b.size (size - total fs))) := by
      refine hb1.kept (fun k hk => by rw [hds] at hk; exact hk) (fun k hk => hsc k (fun e => ?_))
      rcases (hb1.lt k hk).1 with h1 | h1
      · have := h.below k h1; have := hW.size; omega
      · omega
    have hlen4 : (f.bs ++ b.data.toList.take (min b.size (size - total fs))).length = f.bs.length + min b.size (size - total fs) := by
      have : b.data.toList.length = b.size := rfl
      rw [List.length_append, List.length_take, this]; omega
    have := put_any hd4 n hn ⟨v', f.bs ++ b.data.toList.take (min b.size (size - total fs)), f.safe⟩ hb4 (by simp only; have := hB.2; omega)
      (fun p hp hne k hk hq => by
        have hp1 := ((h.owns p hp).1.lt k hq).2
        rcases hloc with e | e
        · exact hf.apart h p hp hne k (e ▸ hk) hq
        · have := e k hk; have := hW.size; omega)
      (by rw [total_fput]; simp only; rw [hlen4, ← hbs]; omega) (few_fput _ hadm h.few)
    refine this.mono (fun e w' ⟨h1, h2⟩ => ⟨h1, rfl, ⟨v', f.bs ++ b.data.toList.take (min b.size (size - total fs)), f.safe⟩, by rw [hbs], hsf.symm, ?_⟩)
    have hk1 : Keeps S w w3 := (Keeps.of_below hbox).trans (T := S) ⟨hg.os, hg.tape, hg.output, hg.size, fun k hk hS => hg.block k hk (fun e => hS (hown k e.symm).1)⟩ (fun x hx => .inl hx)
    have hk2 : Keeps S w (w3.setCell ⟨W.heap.size, 0, none⟩ v') := hk1.trans (T := fun k => k = W.heap.size) ⟨rfl, rfl, rfl, by omega, fun k _ hS => hsc k hS⟩ (fun x hx => .inr (by rw [hx]; exact hW.size))
    refine After.then hk2 (fun k hk => ?_) (fun k hk => .inl hk) h2
    rcases hk with hk | hk
    · exact .inl hk
    · exact .inr (by have := hW.size; omega)
set_option maxHeartbeats 400000 in
theorem append_not {w : World} {S : Nat → Prop} {a size : Nat} {mo : Option Nat} {fs : List (List UInt8 × FileE)} (h : DiskM w S a size mo fs) (n b : ByteArray) (hn : n.size ≤ maxLen) (hE : admE (abs fs) n ≠ 0) :
    Calls Tryz.prog 48 #[.pointer (some ⟨a, 0, none⟩), .string n, .string b] w fun e w' => e = .returned (.int .i64 (admE (abs fs) n : Int)) ∧ Below w.heap.size w w' := by
  have HA : Hid (Calls Tryz.prog 50 #[.pointer (some ⟨a, 0, none⟩), .string n] w fun e w' => e = .returned (.int .i64 (admE (abs fs) n : Int)) ∧ Below w.heap.size w w') := admit_any h n hn
  generalize admE (abs fs) n = E at *
  have hne : (((E : Nat) : Int) != 0) = true := by simp; omega
  clear h hE
  go_enter Tryz.func48, Tryz.ntmps48
  go_wp2_with (go_at_call 50; refine HA.out.mono ?_; rintro e w1 ⟨rfl, hb1⟩)
  go_ret
  exact ⟨rfl, hb1⟩

theorem appendA {w : World} {S : Nat → Prop} {a size : Nat} {l : List AF} (h : DiskA w S a size l) (n b : ByteArray) (hn : n.size ≤ maxLen) (hb : b.size ≤ maxLen) :
    Calls Tryz.prog 48 #[.pointer (some ⟨a, 0, none⟩), .string n, .string b] w fun e w' => e = .returned (.int .i64 (appE size l n b : Int)) ∧ AfterA S w w' a size (appL size l n b) := by
  obtain ⟨mo, fs, hd, rfl⟩ := h
  by_cases hE : admE (abs fs) n = 0
  · obtain ⟨h1, h2⟩ := admE_zero hE
    refine (append_any hd n b hn hb h1 h2).mono (fun e w' ⟨he, f, hf1, hf2, hA⟩ => ⟨?_, hA.abs' ?_⟩)
    · rw [he]; unfold appE; rw [if_pos hE, total_abs]; split <;> rfl
    · rw [abs_fput, hf1, hf2]; unfold appL; rw [if_pos hE, abytes_abs, asafe_abs, total_abs]
  · refine (append_not hd n b hn hE).mono (fun e w' ⟨he, hb⟩ => ⟨?_, ?_⟩)
    · rw [he]; unfold appE; rw [if_neg hE]
    · unfold appL; rw [if_neg hE]; exact AfterA.same ⟨mo, fs, hd, rfl⟩ hb

theorem syncA {w : World} {S : Nat → Prop} {a size : Nat} {l : List AF} (h : DiskA w S a size l) (n : ByteArray) (hn : n.size ≤ maxLen) :
    Calls Tryz.prog 43 #[.pointer (some ⟨a, 0, none⟩), .string n] w fun e w' => e = .returned (.int .i64 (synE l n : Int)) ∧ AfterA S w w' a size (synL l n) := by
  obtain ⟨mo, fs, hd, rfl⟩ := h
  unfold synE synL
  rw [asome_abs, abytes_abs]
  cases hf : flook fs n.data.toList with
  | some f =>
    simp only [Option.isSome_some, if_true]
    refine (sync_yes hd n hn f hf).mono (fun e w' ⟨he, hA⟩ => ⟨by rw [he]; rfl, hA.abs' ?_⟩)
    have e1 : bsAt fs n.data.toList = f.bs := by unfold bsAt; rw [hf]
    rw [abs_fput, e1]
  | none =>
    simp only [Option.isSome_none, Bool.false_eq_true, if_false]
    exact (sync_no hd n hn (by rw [hf]; rfl)).mono (fun e w' ⟨he, hb⟩ => ⟨by rw [he]; rfl, AfterA.same ⟨mo, fs, hd, rfl⟩ hb⟩)

end Go.Proofs.YtclldpecbocclaaGreat

/- ReadInt of both. -/
namespace Go.Proofs.YtclldpecbocclaaGreat
open Go.RowKit Go.Maps
set_option linter.unusedSimpArgs false
set_option linter.unusedVariables false
set_option maxRecDepth 100000

theorem drop_at (s : ByteArray) (k : Nat) (h : k < s.size) : s.data.toList.drop k = s[k] :: s.data.toList.drop (k + 1) := by
  rw [List.drop_eq_getElem_cons (by simpa using h)]; rfl

theorem and127 : ∀ x : Nat, x < 256 → x &&& 127 = x % 128 := fun x _ => nat_mask7 x
theorem pow_two (k : Nat) : (2 : Int) ^ (7 * k) = ((128 ^ k : Nat) : Int) := by
  rw [Int.pow_mul]; norm_cast
theorem shl_lt (z d k : Nat) (hk : k ≤ 9) (hz : z < 128 ^ k) (h9 : k = 9 → d ≤ 1) : z + d % 128 * 128 ^ k < 18446744073709551616 := by
  have h9' : (128 : Nat) ^ 9 = 9223372036854775808 := by decide
  by_cases h : k = 9
  · subst h
    have : d % 128 * 128 ^ 9 ≤ 1 * 128 ^ 9 := Nat.mul_le_mul_right _ (by have := h9 rfl; omega)
    omega
  · have hp8 : 128 ^ k ≤ 128 ^ 8 := Nat.pow_le_pow_right (by omega) (by omega)
    have h8 : (128 : Nat) ^ 8 = 72057594037927936 := by decide
    have : d % 128 * 128 ^ k ≤ 127 * 128 ^ k := Nat.mul_le_mul_right _ (by omega)
    omega
theorem shl_pow (z d k : Nat) (hz : z < 128 ^ k) : z + d % 128 * 128 ^ k < 128 ^ (k + 1) := by
  have : d % 128 * 128 ^ k ≤ 127 * 128 ^ k := Nat.mul_le_mul_right _ (by omega)
  rw [Nat.pow_succ]
  omega
theorem shl_or (z d k : Nat) (hk : k ≤ 9) (hz : z < 128 ^ k) (hd : d < 256) (h9 : k = 9 → d ≤ 1) :
    bits .or .u64 (z : Int) (IntKind.u64.wrap (IntKind.u64.wrap (bits .and .u8 (d : Int) 127) * 2 ^ (7 * k))) = ((z + d % 128 * 128 ^ k : Nat) : Int) := by
  have hlt := shl_lt z d k hk hz h9
  have e1 : bits .and .u8 (d : Int) 127 = ((d % 128 : Nat) : Int) := by
    have := u8_and_nat d 127 hd (by omega)
    rw [nat_mask7] at this
    exact this
  have e2 : IntKind.u64.wrap ((d % 128 : Nat) : Int) = ((d % 128 : Nat) : Int) := by rw [IntKind.wrap_u64]; omega
  have e3 : IntKind.u64.wrap (((d % 128 * 128 ^ k : Nat) : Int)) = ((d % 128 * 128 ^ k : Nat) : Int) := by rw [IntKind.wrap_u64]; omega
  rw [e1, e2, pow_two, ← Int.natCast_mul, e3, u64_or_nat _ _ (by omega) (by omega)]
  have hj := nat_join (7 * k) (d % 128 * 128 ^ k) z (by rw [Nat.pow_mul]; exact Nat.mul_mod_left _ _) (by rw [Nat.pow_mul]; exact hz)
  rw [Nat.or_comm, hj, Nat.add_comm]
theorem rdZ_step (f k z : Nat) (d : UInt8) (r : List UInt8) (h : ¬ ((k = 9 ∧ 1 < d.toNat) ∨ (0 < k ∧ d.toNat = 0))) :
    rdZ (f + 1) k z (d :: r) = if d.toNat < 128 then (z + d.toNat % 128 * 128 ^ k, k + 1, 0) else rdZ f (k + 1) (z + d.toNat % 128 * 128 ^ k) r := by
  rw [rdZ, if_neg h]
  by_cases hd : d.toNat < 128
  · rw [if_pos hd, if_pos hd, Nat.mod_eq_of_lt hd]
  · rw [if_neg hd, if_neg hd]

set_option maxHeartbeats 1600000 in
theorem readInt_any (s : ByteArray) (w : World) (hs : s.size ≤ maxLen) :
    Calls Tryz.prog 89 #[.string s] w fun e w' => e = .returned (.tuple #[.int .i64 (readL s.data.toList).1, .int .i64 ((readL s.data.toList).2.1 : Nat), .int .i64 (readL s.data.toList).2.2]) ∧ w = w' := by
  unfold maxLen at hs
  obtain ⟨R, hR⟩ : ∃ R, R = rdZ 10 0 0 s.data.toList := ⟨_, rfl⟩
  have HR : Hid (readL s.data.toList = okI R) := by show _ = _; rw [hR]; rfl
  have H0 : Hid (rdZ (10 - 0) 0 0 (s.data.toList.drop 0) = R) := hR.symm
  clear hR
  go_enter Tryz.func89, Tryz.ntmps89
  go_wp2
  go_loop [5, 8] (fun c i => ∃ k z : Nat, k ≤ 10 ∧ k ≤ s.size ∧ i = .int .i64 k ∧ c = .int .u64 z ∧ z < 128 ^ k ∧ Hid (rdZ (10 - k) k z (s.data.toList.drop k) = R)) (fun _ i => 10 - (intOf i).toNat)
  case atStart => exact ⟨0, 0, Nat.zero_le _, Nat.zero_le _, rfl, rfl, by simp, H0⟩
  case round =>
    obtain ⟨k, z, hk, hks, rfl, rfl, hz, HD⟩ := hrel
    clear H0
    by_cases hlt : k < 10
    · have hlt' : (k : Int) < 10 := by omega
      by_cases hsz : k < s.size
      · have hsz' : ((k : Int) == (s.size : Int)) = false := by simp; omega
        by_cases h9 : k = 9
        · have h9' : ((k : Int) == 9) = true := by simp; omega
          by_cases hd1 : 1 < s[k].toNat
          · have hd1' : 1 < (s[k].toNat : Int) := by omega
            have HF : Hid (readL s.data.toList = (0, 0, 4)) := by
              show _ = _
              rw [HR.out, ← HD.out, drop_at s k hsz, show 10 - k = 10 - (k + 1) + 1 by omega, rdZ, if_pos (by omega)]
              rfl
            try clear h9
            try clear h0
            try clear hd0
            go_wp2
            go_ret3
            exact ⟨by rw [HF.out]; rfl, rfl⟩
          · have hd1' : ¬ 1 < (s[k].toNat : Int) := by omega
            have h0' : 0 < (k : Int) := by omega
            by_cases hd0 : s[k].toNat = 0
            · have hd0' : ((s[k].toNat : Int) == 0) = true := by simp; omega
              have HF : Hid (readL s.data.toList = (0, 0, 4)) := by
                show _ = _
                rw [HR.out, ← HD.out, drop_at s k hsz, show 10 - k = 10 - (k + 1) + 1 by omega, rdZ, if_pos (by omega)]
                rfl
              try clear h9
              try clear h0
              try clear hd0
              go_wp2
              go_ret3
              exact ⟨by rw [HF.out]; rfl, rfl⟩
            · have hd0' : ((s[k].toNat : Int) == 0) = false := by simp; omega
              have hb := s[k].toNat_lt
              have hcond : ¬ ((k = 9 ∧ 1 < s[k].toNat) ∨ (0 < k ∧ s[k].toNat = 0)) := by omega
              obtain ⟨Z, hZ⟩ : ∃ Z, Z = z + s[k].toNat % 128 * 128 ^ k := ⟨_, rfl⟩
              have hbig := shl_or z s[k].toNat k (by omega) hz (by omega) (by omega)
              have hZlt := shl_lt z s[k].toNat k (by omega) hz (by omega)
              have hZp := shl_pow z s[k].toNat k hz
              have HN := hid (rdZ_step (10 - (k + 1)) k z s[k] (s.data.toList.drop (k + 1)) hcond)
              rw [← hZ] at hbig hZlt hZp HN
              rw [show 10 - (k + 1) + 1 = 10 - k by omega, ← drop_at s k hsz] at HN
              have HN2 := HN.out.symm.trans HD.out
              have HN3 := hid HN2
              clear HN HN2 hZ hcond hz
              try clear h9
              try clear h0
              try clear hd0
              by_cases hd : s[k].toNat < 128
              · have hd' : (s[k].toNat : Int) < 128 := by omega
                have HF : Hid (readL s.data.toList = (unzz Z, k + 1, 0)) := by
                  show _ = _
                  rw [HR.out, ← HN3.out, if_pos hd]
                  rfl
                go_wp2_with (go_at_call 108; refine (unfolded_any Z _ hZlt).mono ?_; rintro e w' ⟨rfl, rfl⟩)
                go_ret3
                exact ⟨by rw [HF.out]; go_num, rfl⟩
              · omega
        · have h9' : ((k : Int) == 9) = false := by simp; omega
          by_cases h0 : k = 0
          · have h0' : ¬ 0 < (k : Int) := by omega
            have hb := s[k].toNat_lt
            have hcond : ¬ ((k = 9 ∧ 1 < s[k].toNat) ∨ (0 < k ∧ s[k].toNat = 0)) := by omega
            obtain ⟨Z, hZ⟩ : ∃ Z, Z = z + s[k].toNat % 128 * 128 ^ k := ⟨_, rfl⟩
            have hbig := shl_or z s[k].toNat k (by omega) hz (by omega) (by omega)
            have hZlt := shl_lt z s[k].toNat k (by omega) hz (by omega)
            have hZp := shl_pow z s[k].toNat k hz
            have HN := hid (rdZ_step (10 - (k + 1)) k z s[k] (s.data.toList.drop (k + 1)) hcond)
            rw [← hZ] at hbig hZlt hZp HN
            rw [show 10 - (k + 1) + 1 = 10 - k by omega, ← drop_at s k hsz] at HN
            have HN2 := HN.out.symm.trans HD.out
            have HN3 := hid HN2
            clear HN HN2 hZ hcond hz
            try clear h9
            try clear h0
            try clear hd0
            by_cases hd : s[k].toNat < 128
            · have hd' : (s[k].toNat : Int) < 128 := by omega
              have HF : Hid (readL s.data.toList = (unzz Z, k + 1, 0)) := by
                show _ = _
                rw [HR.out, ← HN3.out, if_pos hd]
                rfl
              go_wp2_with (go_at_call 108; refine (unfolded_any Z _ hZlt).mono ?_; rintro e w' ⟨rfl, rfl⟩)
              go_ret3
              exact ⟨by rw [HF.out]; go_num, rfl⟩
            · have hd' : ¬ (s[k].toNat : Int) < 128 := by omega
              have HF : Hid (rdZ (10 - (k + 1)) (k + 1) Z (s.data.toList.drop (k + 1)) = R) := by
                show _ = _
                rw [← HN3.out, if_neg hd]
              go_wp2
              go_round
              case rel => exact ⟨k + 1, Z, by omega, by omega, by go_num, rfl, hZp, HF⟩
              case measure => simp [intOf]; omega
          · have h0' : 0 < (k : Int) := by omega
            by_cases hd0 : s[k].toNat = 0
            · have hd0' : ((s[k].toNat : Int) == 0) = true := by simp; omega
              have HF : Hid (readL s.data.toList = (0, 0, 4)) := by
                show _ = _
                rw [HR.out, ← HD.out, drop_at s k hsz, show 10 - k = 10 - (k + 1) + 1 by omega, rdZ, if_pos (by omega)]
                rfl
              try clear h9
              try clear h0
              try clear hd0
              go_wp2
              go_ret3
              exact ⟨by rw [HF.out]; rfl, rfl⟩
            · have hd0' : ((s[k].toNat : Int) == 0) = false := by simp; omega
              have hb := s[k].toNat_lt
              have hcond : ¬ ((k = 9 ∧ 1 < s[k].toNat) ∨ (0 < k ∧ s[k].toNat = 0)) := by omega
              obtain ⟨Z, hZ⟩ : ∃ Z, Z = z + s[k].toNat % 128 * 128 ^ k := ⟨_, rfl⟩
              have hbig := shl_or z s[k].toNat k (by omega) hz (by omega) (by omega)
              have hZlt := shl_lt z s[k].toNat k (by omega) hz (by omega)
              have hZp := shl_pow z s[k].toNat k hz
              have HN := hid (rdZ_step (10 - (k + 1)) k z s[k] (s.data.toList.drop (k + 1)) hcond)
              rw [← hZ] at hbig hZlt hZp HN
              rw [show 10 - (k + 1) + 1 = 10 - k by omega, ← drop_at s k hsz] at HN
              have HN2 := HN.out.symm.trans HD.out
              have HN3 := hid HN2
              clear HN HN2 hZ hcond hz
              try clear h9
              try clear h0
              try clear hd0
              by_cases hd : s[k].toNat < 128
              · have hd' : (s[k].toNat : Int) < 128 := by omega
                have HF : Hid (readL s.data.toList = (unzz Z, k + 1, 0)) := by
                  show _ = _
                  rw [HR.out, ← HN3.out, if_pos hd]
                  rfl
                go_wp2_with (go_at_call 108; refine (unfolded_any Z _ hZlt).mono ?_; rintro e w' ⟨rfl, rfl⟩)
                go_ret3
                exact ⟨by rw [HF.out]; go_num, rfl⟩
              · have hd' : ¬ (s[k].toNat : Int) < 128 := by omega
                have HF : Hid (rdZ (10 - (k + 1)) (k + 1) Z (s.data.toList.drop (k + 1)) = R) := by
                  show _ = _
                  rw [← HN3.out, if_neg hd]
                go_wp2
                go_round
                case rel => exact ⟨k + 1, Z, by omega, by omega, by go_num, rfl, hZp, HF⟩
                case measure => simp [intOf]; omega
      · have hsz' : ((k : Int) == (s.size : Int)) = true := by simp; omega
        have HF : Hid (readL s.data.toList = (0, 0, 5)) := by
          show _ = _
          rw [HR.out, ← HD.out, show 10 - k = 10 - (k + 1) + 1 by omega, List.drop_of_length_le (by simp; omega)]
          rfl
        go_wp2
        go_ret3
        exact ⟨by rw [HF.out]; rfl, rfl⟩
    · have hlt' : ¬ (k : Int) < 10 := by omega
      have HF : Hid (readL s.data.toList = (0, 0, 4)) := by
        show _ = _
        rw [HR.out, ← HD.out, show 10 - k = 0 by omega]
        rfl
      go_wp2
      go_ret3
      exact ⟨by rw [HF.out]; rfl, rfl⟩
end Go.Proofs.YtclldpecbocclaaGreat

/- ReadInt of the document. -/
namespace Go.Proofs.YtclldpecbocclaaGreat
open Go.RowKit Go.Maps
set_option linter.unusedSimpArgs false
set_option linter.unusedVariables false
set_option maxRecDepth 100000

theorem pow_lt64 (k : Nat) (hk : k ≤ 9) : 128 ^ k % 18446744073709551616 = 128 ^ k := by
  have h9' : (128 : Nat) ^ 9 = 9223372036854775808 := by decide
  have hp : 128 ^ k ≤ 128 ^ 9 := Nat.pow_le_pow_right (by omega) (by omega)
  exact Nat.mod_eq_of_lt (by omega)
theorem pow_next (k : Nat) (hk : k ≤ 9) : IntKind.u64.wrap (((128 ^ k % 18446744073709551616 : Nat) : Int) * 128) = ((128 ^ (k + 1) % 18446744073709551616 : Nat) : Int) := by
  rw [pow_lt64 k hk, IntKind.wrap_u64, Nat.pow_succ]
  omega
theorem mul_add (z d k : Nat) (hk : k ≤ 9) (hz : z < 128 ^ k) (h9 : k = 9 → d ≤ 1) :
    IntKind.u64.wrap ((z : Int) + IntKind.u64.wrap ((d : Int) % 128 * ((128 ^ k % 18446744073709551616 : Nat) : Int))) = ((z + d % 128 * 128 ^ k : Nat) : Int) := by
  have hlt := shl_lt z d k hk hz h9
  rw [pow_lt64 k hk, show (d : Int) % 128 = ((d % 128 : Nat) : Int) by omega, ← Int.natCast_mul]
  generalize d % 128 * 128 ^ k = M at *
  rw [IntKind.wrap_u64, IntKind.wrap_u64]
  omega

end Go.Proofs.YtclldpecbocclaaGreat

/- Four bytes, of both. -/
namespace Go.Proofs.YtclldpecbocclaaGreat
open Go.RowKit Go.Maps
set_option linter.unusedSimpArgs false
set_option linter.unusedVariables false
set_option maxRecDepth 100000

theorem row_made (w : World) (cs : List Value) (l : List UInt8) (n : Nat) (h : cs = u8c l) (hn : n = l.length) (hm : n ≤ maxLen) : Row (w.alloc (.cells cs.toArray 5)) w.heap.size (.slice (some ⟨w.heap.size, 0, none⟩) n n) l := by
  subst h hn
  refine ⟨by simp [u8c], .inr ⟨w.heap.size, l.length, (u8c l).toArray, rfl, Nat.le_refl _, heap_alloc_new w _, Nat.le_refl _, hm, by simp [u8c], ?_⟩⟩
  show ((u8c l).toArray.toList).take (l.length * 1) = u8c l
  rw [List.take_of_length_le (by simp [u8c])]

theorem fourL_cells (n : Nat) (h : n < 4294967296) : [.int .u8 ((n : Int) / 16777216), .int .u8 ((n : Int) / 65536 % 256), .int .u8 ((n : Int) / 256 % 256), .int .u8 ((n : Int) % 256)] = u8c (fourL n) := by
  simp [u8c, fourL]
  omega
theorem four_conv (w : World) (n : Nat) (h : n < 4294967296) :
    (convert 74 9 (.slice (some ⟨w.heap.size, 0, none⟩) 4 4)).run Tryz.prog (w.alloc (.cells #[.int .u8 ((n : Int) / 16777216), .int .u8 ((n : Int) / 65536 % 256), .int .u8 ((n : Int) / 256 % 256), .int .u8 ((n : Int) % 256)] 5)) =
      .ok (.string (strOf (fourL n))) (w.alloc (.cells #[.int .u8 ((n : Int) / 16777216), .int .u8 ((n : Int) / 65536 % 256), .int .u8 ((n : Int) / 256 % 256), .int .u8 ((n : Int) % 256)] 5)) :=
  (row_made w _ (fourL n) 4 (fourL_cells n h) rfl (by unfold maxLen; omega)).conv

theorem i64_or_nat (a b : Nat) (ha : a < 9223372036854775808) (hb : b < 9223372036854775808) : bits .or .i64 (a : Int) (b : Int) = ((a ||| b : Nat) : Int) := by
  have hx : a ||| b < 2 ^ 63 := Nat.or_lt_two_pow (by omega) (by omega)
  show IntKind.i64.wrap ((BitVec.ofInt 64 (a : Int) ||| BitVec.ofInt 64 (b : Int)).toNat : Int) = _
  rw [BitVec.toNat_or, ofInt_u64 a (by omega), ofInt_u64 b (by omega), IntKind.wrap_i64]
  omega
theorem or_byte (a d : Nat) (ha : a < 16777216) (hd : d < 256) : bits .or .i64 ((a : Int) * 256) (d : Int) = ((a * 256 + d : Nat) : Int) := by
  have h := i64_or_nat (a * 256) d (by omega) (by omega)
  rw [nat_join 8 (a * 256) d (by omega) (by omega)] at h
  rw [show ((a : Int) * 256) = ((a * 256 : Nat) : Int) by omega, h]

def accN (l : List UInt8) : Nat := l.foldl (fun a b => a * 256 + b.toNat) 0
theorem accN_snoc (l : List UInt8) (b : UInt8) : accN (l ++ [b]) = accN l * 256 + b.toNat := by simp [accN]
theorem accN_lt (s : ByteArray) : ∀ k, k ≤ 4 → k ≤ s.size → accN (s.data.toList.take k) < 256 ^ k
  | 0, _, _ => by simp [accN]
  | k + 1, h, hs => by
    have ih := accN_lt s k (by omega) (by omega)
    have := s[k].toNat_lt
    rw [take_snoc s k (by omega), accN_snoc, Nat.pow_succ]
    omega
theorem accN_four (l : List UInt8) (h : 4 ≤ l.length) : accN (l.take 4) = fourN l := by
  match l, h with
  | a :: b :: c :: d :: r, _ => simp [accN, fourN]; omega

theorem fourN_at (s : ByteArray) (h4 : 4 ≤ s.size) : fourN s.data.toList = s[0].toNat * 16777216 + s[1].toNat * 65536 + s[2].toNat * 256 + s[3].toNat := by
  have e : s.data.toList = s[0] :: s[1] :: s[2] :: s[3] :: s.data.toList.drop 4 := by
    have h0 := drop_at s 0 (by omega)
    have h1 := drop_at s 1 (by omega)
    have h2 := drop_at s 2 (by omega)
    have h3 := drop_at s 3 (by omega)
    simp only [List.drop_zero, Nat.zero_add, Nat.reduceAdd] at h0 h1 h2 h3
    rw [h3] at h2
    rw [h2] at h1
    rw [h1] at h0
    exact h0
  have e2 := congrArg fourN e
  rw [e2]
  rfl

theorem idx_const (s : ByteArray) (k : Nat) (h : k < s.size) (w : World) : (Instr.index 9 (.string s) (.int .i64 (k : Int))).run Tryz.prog w = .ok (.int .u8 (s[k].toNat : Int)) w := by
  rw [run_index_string (P := Tryz.prog) w 9 s .i64 (k : Int) Tryz.underlying9]
  simp [h]

end Go.Proofs.YtclldpecbocclaaGreat

