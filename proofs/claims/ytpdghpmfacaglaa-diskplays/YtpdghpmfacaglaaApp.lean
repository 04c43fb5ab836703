/- What Append does. -/
import Derived.Test.YtpdghpmfacaglaaWrite
import Derived.Deep.RegionLaw
import Derived.Deep.DeepFit
namespace Go.Proofs.Ytpdghpmfacaglaa
open Go.RowKit Go.Maps
open Go.WideMaps (keyOf_string_mk)
set_option maxRecDepth 100000
set_option linter.unusedSimpArgs false
set_option linter.unusedVariables false

theorem step_append_run {ops : Array Oper} {o : Oper} {a : Act} {w : World} {K : Act → World → Prop} {Q : Exit → Act → World → Prop} {E : Prop}
    (hg : o.guard = none) (s x : Operand) (hop : o.op = Op.call { callee := Callee.builtin Builtin.append, args := #[s, x], argTypes := #[63, 9] })
    (sv xv v' : Value) (w3 : World) (hs : a.eval s = sv) (hx : a.eval x = xv) (hrun : ∀ ty, (Builtin.append_ #[63, 9] ty #[sv, xv]).run Try.prog w = .ok v' w3)
    (hK : K (a.put o.dst v') w3) : if Region.wanted o (yielded ops a.tmps) = true then Oper.wp Try.prog o a w K Q else E := by
  have hw : Region.wanted o (yielded ops a.tmps) = true := by simp [Region.wanted, hg]
  rw [if_pos hw]
  have hr := hrun o.type
  unfold Oper.wp
  simp [execOp, hop, resolve, invoke, builtin, hs, hx, hr, Result.andThen]
  exact hK

set_option maxHeartbeats 800000 in
theorem append_walk {w : World} {a : Nat} {mo : Option Nat} (n b : ByteArray) (free : Nat) (m : Nat) (hm : m = min b.size free) (hfree : free ≤ 16777216) (hbs : b.size ≤ 9223372036854775807) (sv : Value) (safe : Int) (hsv : ∃ oa l c, sv = .slice oa l c)
    (post : Ending → World → Prop)
    (HA : Hid (Calls Try.prog 44 #[.pointer (some ⟨a, 0, none⟩), .string n] w fun e w' => e = .returned (.int .i64 0) ∧ Below w.heap.size w w'))
    (HF : Hid (∀ W, Below w.heap.size w W → Calls Try.prog 21 #[.pointer (some ⟨a, 0, none⟩)] W fun e w' => e = .returned (.int .i64 (free : Int)) ∧ Below w.heap.size w w'))
    (HL : Hid (∀ W, Below w.heap.size w W → (Instr.lookup 54 (.map mo) (.string n) false).run Try.prog W = .ok (.agg #[sv, .int .i64 safe]) W))
    (HC : Hid (∀ W, Below w.heap.size w W → W.cell? ⟨a, 1, none⟩ = some (.map mo)))
    (HR : Hid (∀ W, Below w.heap.size w W → ∃ v' w3, (∃ oa l c, v' = .slice oa l c) ∧ (∀ ty, (Builtin.append_ #[63, 9] ty #[sv, .string (b.extract 0 m)]).run Try.prog (W.alloc (.cells #[sv, .int .i64 safe] 65)).drew = .ok v' w3) ∧
      w3.cell? ⟨W.heap.size, 0, none⟩ = some sv ∧ w3.frozen? ⟨W.heap.size, 0, none⟩ = false ∧ w3.cell? ⟨W.heap.size, 1, none⟩ = some (.int .i64 safe) ∧
      Calls Try.prog 42 #[.pointer (some ⟨a, 0, none⟩), .string n, .agg #[v', .int .i64 safe]] (w3.setCell ⟨W.heap.size, 0, none⟩ v') fun e w' => e = .returned (.tuple #[]) ∧ post (.returned (.int .i64 (if b.size ≤ free then 0 else 7))) w')) :
    Calls Try.prog 15 #[.pointer (some ⟨a, 0, none⟩), .string n, .string b] w post := by
  obtain ⟨oa, l, c, rfl⟩ := hsv
  have hmin : min (b.size : Int) (free : Int) = (m : Int) := by omega
  have hmb : (m : Int) ≤ (b.size : Int) := by omega
  by_cases hle : b.size ≤ free
  · rw [if_pos hle] at HR
    have hlt : ¬ ((m : Int) < (b.size : Int)) := by omega
    clear hm hle
    go_enter Try.func15, Try.ntmps15
    go_wp2_with (go_at_call 44; refine HA.out.mono ?_; rintro e w1 ⟨rfl, hb1⟩)
    go_wp2_with (go_at_call 21; refine (HF.out _ hb1).mono ?_; rintro e w2 ⟨rfl, hb2⟩; have hl := HL.out _ hb2; have hc := HC.out _ hb2; obtain ⟨v', w3, ⟨oa', l', c', hv'⟩, hr, hc3, hf3, hc31, hput⟩ := HR.out _ hb2; subst hv'; have HPut : Hid (Calls Try.prog 42 #[.pointer (some ⟨a, 0, none⟩), .string n, .agg #[.slice oa' l' c', .int .i64 safe]] (w3.setCell ⟨w2.heap.size, 0, none⟩ (.slice oa' l' c')) fun e w' => e = .returned (.tuple #[]) ∧ post (.returned (.int .i64 0)) w') := hput; clear hput; have HRun : Hid (_) := hr; clear hr)
    go_region_law (refine step_append_run rfl (.tmp 28) (.tmp 31) rfl _ _ _ _ (by simp [Act.eval, Act.put]) (by simp [Act.eval, Act.put]) HRun.out ?_)
    go_wp2_with (go_at_call 42; refine HPut.out.mono ?_; rintro e w4 ⟨rfl, hA⟩)
    exact hA
  · rw [if_neg hle] at HR
    have hlt : ((m : Int) < (b.size : Int)) := by omega
    clear hm hle
    go_enter Try.func15, Try.ntmps15
    go_wp2_with (go_at_call 44; refine HA.out.mono ?_; rintro e w1 ⟨rfl, hb1⟩)
    go_wp2_with (go_at_call 21; refine (HF.out _ hb1).mono ?_; rintro e w2 ⟨rfl, hb2⟩; have hl := HL.out _ hb2; have hc := HC.out _ hb2; obtain ⟨v', w3, ⟨oa', l', c', hv'⟩, hr, hc3, hf3, hc31, hput⟩ := HR.out _ hb2; subst hv'; have HPut : Hid (Calls Try.prog 42 #[.pointer (some ⟨a, 0, none⟩), .string n, .agg #[.slice oa' l' c', .int .i64 safe]] (w3.setCell ⟨w2.heap.size, 0, none⟩ (.slice oa' l' c')) fun e w' => e = .returned (.tuple #[]) ∧ post (.returned (.int .i64 7)) w') := hput; clear hput; have HRun : Hid (_) := hr; clear hr)
    go_region_law (refine step_append_run rfl (.tmp 28) (.tmp 31) rfl _ _ _ _ (by simp [Act.eval, Act.put]) (by simp [Act.eval, Act.put]) HRun.out ?_)
    go_wp2_with (go_at_call 42; refine HPut.out.mono ?_; rintro e w4 ⟨rfl, hA⟩)
    exact hA

theorem flook_of_mem : ∀ {fs : List (List UInt8 × FileE)}, fs.Pairwise (fun p q => p.1 ≠ q.1) → ∀ {p : List UInt8 × FileE}, p ∈ fs → flook fs p.1 = some p.2
  | [], _, _, h => by cases h
  | q :: r, hp, p, h => by
    have hp' := List.pairwise_cons.1 hp
    unfold flook
    rcases List.mem_cons.1 h with rfl | h
    · simp
    · have hne : (q.1 == p.1) = false := by simpa using hp'.1 p h
      rw [List.find?_cons, hne]
      exact flook_of_mem hp'.2 h

/-- The bytes at a name: what is there, or nothing. -/
def AtName (fs : List (List UInt8 × FileE)) (n : List UInt8) (f : FileE) : Prop := flook fs n = some f ∨ (flook fs n = none ∧ f = ⟨.slice none 0 0, [], 0⟩)

theorem atName_exists (fs : List (List UInt8 × FileE)) (n : List UInt8) : ∃ f, AtName fs n f := by
  cases h : flook fs n with
  | some f => exact ⟨f, .inl h⟩
  | none => exact ⟨_, .inr ⟨h, rfl⟩⟩

theorem AtName.val {fs : List (List UInt8 × FileE)} {n : List UInt8} {f : FileE} (h : AtName fs n f) : fval fs n = f.val ∧ bsAt fs n = f.bs ∧ safeAt fs n = f.safe := by
  unfold fval bsAt safeAt
  rcases h with h | ⟨h, rfl⟩ <;> rw [h]
  · exact ⟨rfl, rfl, rfl⟩
  · exact ⟨rfl, rfl, rfl⟩

theorem AtName.bytes {w : World} {S : Nat → Prop} {a size : Nat} {mo : Option Nat} {fs : List (List UInt8 × FileE)} (h : DiskM w S a size mo fs) {n : List UInt8} {f : FileE} (hf : AtName fs n f) : BytesAt w S f.sv f.bs ∧ f.safe ≤ f.bs.length := by
  rcases hf with hf | ⟨_, rfl⟩
  · exact h.owns _ (flook_mem hf)
  · exact ⟨.inl ⟨rfl, rfl⟩, Nat.le_refl _⟩

theorem AtName.apart {w : World} {S : Nat → Prop} {a size : Nat} {mo : Option Nat} {fs : List (List UInt8 × FileE)} (h : DiskM w S a size mo fs) {n : List UInt8} {f : FileE} (hf : AtName fs n f) :
    ∀ p ∈ fs, p.1 ≠ n → ∀ k, f.sv.ownBlock = some k → p.2.sv.ownBlock ≠ some k := by
  rcases hf with hf | ⟨_, rfl⟩
  · exact apart_at h.apart hf
  · intro p _ _ k hk; simp [Value.ownBlock] at hk

theorem AtName.of_mem {w : World} {S : Nat → Prop} {a size : Nat} {mo : Option Nat} {fs : List (List UInt8 × FileE)} (h : DiskM w S a size mo fs) {n : List UInt8} {f : FileE} (hf : AtName fs n f) {p : List UInt8 × FileE} (hp : p ∈ fs) (he : p.1 = n) : p.2 = f := by
  have := flook_of_mem h.keys hp
  rw [he] at this
  rcases hf with hf | ⟨hf, _⟩
  · rw [hf] at this; exact (Option.some.inj this).symm
  · rw [hf] at this; cases this

/-- The disk stays as it is while the bytes behind one file's length are turned. -/
theorem DiskM.appended {w w3 : World} {S : Nat → Prop} {a size : Nat} {mo : Option Nat} {fs : List (List UInt8 × FileE)} (h : DiskM w S a size mo fs) {n : List UInt8} {f : FileE} (hf : AtName fs n f)
    (hb : BytesAt w3 S f.sv f.bs) (hg : w.grownBy w3 f.sv.ownBlock) : DiskM w3 S a size mo fs := by
  have hB := (hf.bytes h).1
  have hk : ∀ k, S k → f.sv.ownBlock ≠ some k → w3.heap[k]? = w.heap[k]? := fun k hS hne => hg.block k (h.below k hS) (fun e => hne e.symm)
  have hna : f.sv.ownBlock ≠ some a := fun e => by
    obtain ⟨cur, mk, hh⟩ := hB.block a e
    rw [h.cells] at hh
    simp only [Option.some.injEq, Obj.cells.injEq] at hh
    exact absurd hh.2.1 (by decide)
  have hnb : ∀ b, mo = some b → f.sv.ownBlock ≠ some b := fun b hm e => by
    obtain ⟨cur, mk, hh⟩ := hB.block b e
    subst hm
    obtain ⟨es, clock, hmb, _⟩ := (show w.ownsMap Try.prog 9 Rh b fs.length (dmap fs) from h.files)
    rw [hmb] at hh
    cases hh
  refine ⟨fun k hk => Nat.lt_of_lt_of_le (h.below k hk) hg.size, h.self, (hk a h.self hna).trans h.cells, h.files.kept (fun b e => hk b (h.mapS b e) (hnb b e)), h.mapS, fun p hp => ?_, h.apart, h.room, h.small, h.few⟩
  by_cases he : p.1 = n
  · have := hf.of_mem h hp he
    rw [this]
    exact ⟨hb, (hf.bytes h).2⟩
  · have hp1 := (h.owns p hp).1
    exact ⟨hp1.kept (fun _ hk => hk) (fun k hk' => hk k (hp1.lt k hk').1 (fun e => hf.apart h p hp he k e hk')), (h.owns p hp).2⟩

theorem extract_take (b : ByteArray) (m : Nat) : (b.extract 0 m).data.toList = b.data.toList.take m := by
  simp

theorem append_any {w : World} {S : Nat → Prop} {a size : Nat} {mo : Option Nat} {fs : List (List UInt8 × FileE)} (h : DiskM w S a size mo fs) (n b : ByteArray) (hn : n.size ≤ maxLen) (hb : b.size ≤ maxLen) (hname : nameB n = true)
    (hadm : (flook fs n.data.toList).isSome = true ∨ fs.length < 256) :
    Calls Try.prog 15 #[.pointer (some ⟨a, 0, none⟩), .string n, .string b] w fun e w' => e = .returned (.int .i64 (if b.size ≤ size - total fs then 0 else 7)) ∧
      ∃ f : FileE, f.bs = bsAt fs n.data.toList ++ b.data.toList.take (min b.size (size - total fs)) ∧ f.safe = safeAt fs n.data.toList ∧ After S w w' a size (fput fs n.data.toList f) := by
  unfold maxLen at hb
  have hsm := h.small
  have hroom := h.room
  have htl := total_fdel_le fs n.data.toList
  rw [lenAt_eq] at htl
  obtain ⟨f, hf⟩ := atName_exists fs n.data.toList
  obtain ⟨hv, hbs, hsf⟩ := hf.val
  have hB := hf.bytes h
  have hsh : ∃ oa l c, f.sv = .slice oa l c := by obtain ⟨oa, c, e⟩ := hB.1.shape; exact ⟨oa, _, c, e⟩
  have hbl : (b.extract 0 (min b.size (size - total fs))).size = min b.size (size - total fs) := by
    simp
  refine append_walk (w := w) (a := a) (mo := mo) n b (size - total fs) (min b.size (size - total fs)) rfl (by omega) (by omega) f.sv f.safe hsh _ (admit_ok h n hn hname hadm)
    (fun W hW => (free_any (h.under hW)).mono (fun e w' ⟨h1, h2⟩ => ⟨h1, hW.trans (h2.mono hW.size)⟩)) (fun W hW => ?_) (fun W hW => (h.under hW).c1) (fun W hW => ?_)
  · have := (h.under hW).files.look n hn
    rw [hv] at this
    exact this
  · have hbox : Below w.heap.size w (W.alloc (.cells #[f.sv, .int .i64 (f.safe : Int)] 65)).drew := (hW.alloc hW.size _).drew
    have hd := h.under hbox
    obtain ⟨v', w3, hr, hb1, hb2, hg, hloc⟩ := (hf.bytes hd).1.append hd.below (b.extract 0 (min b.size (size - total fs))) (by rw [hbl, ← hbs]; omega) 63
    rw [extract_take] at hb1
    have hsame : ∀ ty, (Builtin.append_ #[63, 9] ty #[f.sv, .string (b.extract 0 (min b.size (size - total fs)))]).run Try.prog (W.alloc (.cells #[f.sv, .int .i64 (f.safe : Int)] 65)).drew = .ok v' w3 := fun ty => hr
    have hds : (W.alloc (.cells #[f.sv, .int .i64 (f.safe : Int)] 65)).drew.heap.size = W.heap.size + 1 := by simp [size_drew]
    have hown : ∀ k, f.sv.ownBlock = some k → S k ∧ k < w.heap.size := fun k hk => ⟨(hB.1.lt k hk).1, (hB.1.lt k hk).2⟩
    have hbx : w3.heap[W.heap.size]? = some (.cells #[f.sv, .int .i64 (f.safe : Int)] 65) := by
      refine (hg.block W.heap.size (by omega) (fun e => ?_)).trans (heap_alloc_new W _)
      have := (hown _ e.symm).2
      have := hW.size
      omega
    obtain ⟨oa2, c2, e2⟩ := hb1.shape
    have hd3 := hd.appended hf hb2 hg
    refine ⟨v', w3, ⟨oa2, _, c2, e2⟩, hsame, by simp [World.cell?, hbx], by simp [World.frozen?, hbx], by simp [World.cell?, hbx], ?_⟩
    have hsc : ∀ k, k ≠ W.heap.size → (w3.setCell ⟨W.heap.size, 0, none⟩ v').heap[k]? = w3.heap[k]? := fun k hk => Below.heap_setCell w3 _ _ k hk
    have hss : (w3.setCell ⟨W.heap.size, 0, none⟩ v').heap.size = w3.heap.size := by simp [World.setCell]
    have hd4 : DiskM (w3.setCell ⟨W.heap.size, 0, none⟩ v') (fun k => S k ∨ (W.heap.size + 1 ≤ k ∧ k < w3.heap.size)) a size mo fs := by
      refine (hd3.kept (w1 := w3.setCell ⟨W.heap.size, 0, none⟩ v') (fun k hk => hsc k (fun e => ?_)) (by omega)).more (fun k hk => .inl hk) (fun k hk => ?_)
      · have := h.below k hk; have := hW.size; omega
      · rcases hk with hk | hk
        · have := hd3.below k hk; omega
        · omega
    have hb4 : BytesAt (w3.setCell ⟨W.heap.size, 0, none⟩ v') (fun k => S k ∨ (W.heap.size + 1 ≤ k ∧ k < w3.heap.size)) v' (f.bs ++ b.data.toList.take (min b.size (size - total fs))) := by
      refine hb1.kept (fun k hk => by rw [hds] at hk; exact hk) (fun k hk => hsc k (fun e => ?_))
      rcases (hb1.lt k hk).1 with h1 | h1
      · have := h.below k h1; have := hW.size; omega
      · omega
    have hlen4 : (f.bs ++ b.data.toList.take (min b.size (size - total fs))).length = f.bs.length + min b.size (size - total fs) := by
      have : b.data.toList.length = b.size := rfl
      rw [List.length_append, List.length_take, this]; omega
    have := put_any hd4 n hn ⟨v', f.bs ++ b.data.toList.take (min b.size (size - total fs)), f.safe⟩ hb4 (by simp only; have := hB.2; omega)
      (fun p hp hne k hk hq => by
        have hp1 := ((h.owns p hp).1.lt k hq).2
        rcases hloc with e | e
        · exact hf.apart h p hp hne k (e ▸ hk) hq
        · have := e k hk; have := hW.size; omega)
      (by rw [total_fput]; simp only; rw [hlen4, ← hbs]; omega) (few_fput _ hadm h.few)
    refine this.mono (fun e w' ⟨h1, h2⟩ => ⟨h1, rfl, ⟨v', f.bs ++ b.data.toList.take (min b.size (size - total fs)), f.safe⟩, by rw [hbs], hsf.symm, ?_⟩)
    have hk1 : Keeps S w w3 := (Keeps.of_below hbox).trans (T := S) ⟨hg.os, hg.tape, hg.output, hg.size, fun k hk hS => hg.block k hk (fun e => hS (hown k e.symm).1)⟩ (fun x hx => .inl hx)
    have hk2 : Keeps S w (w3.setCell ⟨W.heap.size, 0, none⟩ v') := hk1.trans (T := fun k => k = W.heap.size) ⟨rfl, rfl, rfl, by omega, fun k _ hS => hsc k hS⟩ (fun x hx => .inr (by rw [hx]; exact hW.size))
    refine After.then hk2 (fun k hk => ?_) (fun k hk => .inl hk) h2
    rcases hk with hk | hk
    · exact .inl hk
    · exact .inr (by have := hW.size; omega)
end Go.Proofs.Ytpdghpmfacaglaa
