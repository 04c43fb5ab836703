/- What Names does: a new slice with the names, rising. -/
import Derived.Test.YtlgaianlkbaedaaH10
import Derived.Test.YtlgaianlkbaedaaH9
namespace Go.Proofs.Ytlgaianlkbaedaa
open Go.RowKit Go.Maps Go.Sort
set_option maxRecDepth 100000
set_option linter.unusedSimpArgs false

theorem before_le : ∀ (a b : List UInt8), bytesBefore a b = true → a ≤ b
  | [], [], h => by simp [bytesBefore] at h
  | [], y :: s, _ => by simp
  | x :: r, [], h => by simp [bytesBefore] at h
  | x :: r, y :: s, h => by
    simp only [bytesBefore, Bool.or_eq_true, Bool.and_eq_true, decide_eq_true_eq, beq_iff_eq] at h
    rw [List.cons_le_cons_iff]
    rcases h with h | ⟨h1, h2⟩
    · exact .inl h
    · exact .inr ⟨h1, before_le r s h2⟩

theorem DiskM.rising {w : World} {S : Nat → Prop} {a size : Nat} {mo : Option Nat} {fs : List (List UInt8 × FileE)} (h : DiskM w S a size mo fs) : fs.Pairwise (fun p q => bytesBefore p.1 q.1 = true) := by
  cases mo with
  | none => have e : fs = [] := h.files; subst e; exact List.Pairwise.nil
  | some b =>
    have hown : w.ownsMap Try.prog 9 Rh b fs.length (dmap fs) := h.files
    obtain ⟨es, he, hp, _⟩ := hown.canon law9
    have : es = fs.map fun p => (Lit.string p.1, (DataW.held p.2.val : DataW Value)) := by simp only [dmap, DataW.map.injEq] at he; exact he.symm
    subst this
    rw [List.pairwise_map] at hp
    exact hp

theorem strKeys_dmap (fs : List (List UInt8 × FileE)) : strKeys (dmap fs) = fs.map (·.1) := by
  simp [strKeys, dmap, Function.comp_def, Go.strOf]

theorem sorted_names {fs : List (List UInt8 × FileE)} (hr : fs.Pairwise (fun p q => bytesBefore p.1 q.1 = true)) {ss : List (List UInt8)} (hp : ss.Perm (fs.map (·.1))) : ss.mergeSort (fun x y => decide (x ≤ y)) = fs.map (·.1) := by
  have h1 : ss.mergeSort (fun x y => decide (x ≤ y)) = (fs.map (·.1)).mergeSort (fun x y => decide (x ≤ y)) := mergeSort_of_perm hp
  rw [h1]
  refine List.mergeSort_of_pairwise ?_
  rw [List.pairwise_map]
  exact hr.imp (fun h => by simpa using before_le _ _ h)

set_option maxHeartbeats 1000000 in
theorem names_any {w : World} {S : Nat → Prop} {a size : Nat} {mo : Option Nat} {fs : List (List UInt8 × FileE)} (h : DiskM w S a size mo fs) :
    Calls Try.prog 34 #[.pointer (some ⟨a, 0, none⟩)] w fun e w' => ∃ v, e = .returned v ∧ w'.ownsRow w.heap.size 9 1 v fs.length ((fs.map (·.1)).map encStr) ∧ Below w.heap.size w w' := by
  have c1 := h.c1
  have hr := h.rising
  have hfew := h.few
  refine (callsIn_wide (n := 6)).1 ?_
  have hfK : Fence.wide.fn 56 := trivial
  have hfS : Fence.wide.fn 55 := trivial
  cases mo with
  | some b =>
    have hown : w.ownsMap Try.prog 9 Rh b fs.length (dmap fs) := h.files
    have hmax : Maps.size (dmap fs) ≤ maxLen := by rw [dmap_size]; unfold maxLen; omega
    have hbytes : Maps.size (dmap fs) * 16 ≤ 140737488355328 := by rw [dmap_size]; omega
    clear h
    refine callsIn_of_wp Try.func34 rfl trivial ?_ rfl
    simp only [Try.ntmps34, List.size_toArray, List.length_cons, List.length_nil, Nat.reduceAdd, Nat.reduceSub, Array.replicate_succ, Array.replicate_zero, List.push_toArray, List.append_toArray, List.nil_append, List.cons_append]
    gi_wp2_with (first
      | (gi_at_call 56; refine (Try.maps_Keys_47 _ _).mono ?_; rintro e w' ⟨rfl, rfl⟩)
      | (gi_at_call 55; refine (Try.slices_Sorted_keys_46_47 b fs.length (dmap fs) Rh w hown hmax hbytes).mono ?_; rintro e w' ⟨v, ss, rfl, hS, hrow, hnil, hb⟩))
    go_ret
    rw [strKeys_dmap] at hS
    have hl : ss.length = fs.length := by simpa using hS.length_eq
    rw [sorted_names hr hS, hl] at hrow
    exact ⟨v, rfl, ownsRow_base_a hrow (by simp), ((Below.refl _ w).alloc (Nat.le_refl _) _).trans (hb.mono (by simp))⟩
  | none =>
    have e0 : fs = [] := h.files
    subst e0
    clear h
    refine callsIn_of_wp Try.func34 rfl trivial ?_ rfl
    simp only [Try.ntmps34, List.size_toArray, List.length_cons, List.length_nil, Nat.reduceAdd, Nat.reduceSub, Array.replicate_succ, Array.replicate_zero, List.push_toArray, List.append_toArray, List.nil_append, List.cons_append]
    gi_wp2_with (first
      | (gi_at_call 56; refine (Try.maps_Keys_47 _ _).mono ?_; rintro e w' ⟨rfl, rfl⟩)
      | (gi_at_call 55; refine (Try.slices_Sorted_keys_nil_46_47 w).mono ?_; rintro e w' ⟨v, ss, rfl, hS, hrow, hnil, hb⟩))
    go_ret
    subst hS
    have e2 : ([] : List (List UInt8)).mergeSort (fun x y => decide (x ≤ y)) = [] := by simp
    rw [e2] at hrow
    exact ⟨v, rfl, ownsRow_base_a hrow (by simp), ((Below.refl _ w).alloc (Nat.le_refl _) _).trans (hb.mono (by simp))⟩
end Go.Proofs.Ytlgaianlkbaedaa

/- What Free and admit do. -/
namespace Go.Proofs.Ytlgaianlkbaedaa
open Go.RowKit Go.Maps
open Go.WideMaps (keyOf_string_mk)
set_option maxRecDepth 100000
set_option linter.unusedSimpArgs false

theorem MapAt.len {w : World} {mo : Option Nat} {fs : List (List UInt8 × FileE)} (h : MapAt w mo fs) (ty : TypeId) : (Builtin.len_ #[56] ty #[.map mo]).run Try.prog w = .ok (.int .i64 (fs.length : Int)) w := by
  cases mo with
  | none => have e : fs = [] := h; subst e; exact Maps.len_nil Try.underlying56 ty
  | some b =>
    have := World.ownsMap.len h Try.underlying56 ty
    rw [dmap_size] at this
    exact this

def doneB (left : Lit → Bool) : List (List UInt8 × FileE) → Nat
  | [] => 0
  | p :: r => (if left (.string p.1) then 0 else p.2.bs.length) + doneB left r

theorem doneB_start (left : Lit → Bool) : ∀ fs : List (List UInt8 × FileE), (∀ p ∈ fs, left (.string p.1) = true) → doneB left fs = 0
  | [], _ => rfl
  | p :: r, h => by simp [doneB, h p (by simp), doneB_start left r (fun q hq => h q (by simp [hq]))]

theorem doneB_end (left : Lit → Bool) (hl : ∀ kl, left kl = false) : ∀ fs : List (List UInt8 × FileE), doneB left fs = total fs
  | [] => rfl
  | p :: r => by simp [doneB, total, hl, doneB_end left hl r]

theorem doneB_le (left : Lit → Bool) : ∀ fs : List (List UInt8 × FileE), doneB left fs ≤ total fs
  | [] => Nat.le_refl _
  | p :: r => by have := doneB_le left r; simp only [doneB, total]; split <;> omega

theorem doneB_other (left : Lit → Bool) (n : List UInt8) : ∀ fs : List (List UInt8 × FileE), (∀ p ∈ fs, p.1 ≠ n) → doneB (fun z => left z && !z.sameKey (.string n)) fs = doneB left fs
  | [], _ => rfl
  | p :: r, h => by
    have h1 : (p.1 == n) = false := by simpa using h p (by simp)
    simp [doneB, sk, h1, doneB_other left n r (fun q hq => h q (by simp [hq]))]

theorem doneB_step (left : Lit → Bool) (n : List UInt8) (f : FileE) : ∀ fs : List (List UInt8 × FileE), fs.Pairwise (fun p q => p.1 ≠ q.1) → (n, f) ∈ fs → left (.string n) = true →
    doneB (fun z => left z && !z.sameKey (.string n)) fs = doneB left fs + f.bs.length
  | [], _, h, _ => by cases h
  | p :: r, hp, h, hl => by
    have hp' := List.pairwise_cons.1 hp
    rcases List.mem_cons.1 h with rfl | h
    · have := doneB_other left n r (fun q hq => (hp'.1 q hq).symm)
      simp only [doneB, this, sk, hl]
      simp
      omega
    · have h1 : (p.1 == n) = false := by simpa using hp'.1 _ h
      have := doneB_step left n f r hp'.2 h hl
      simp only [doneB, this, sk, h1]
      simp
      omega

theorem DiskM.keys {w : World} {S : Nat → Prop} {a size : Nat} {mo : Option Nat} {fs : List (List UInt8 × FileE)} (h : DiskM w S a size mo fs) : fs.Pairwise (fun p q => p.1 ≠ q.1) :=
  h.rising.imp (fun {p q} hb e => by rw [e, WideAt.bytes_irrefl] at hb; cases hb)

/-- What comes out of the range is a file. -/
theorem DiskM.of_at {w : World} {S : Nat → Prop} {a size : Nat} {mo : Option Nat} {fs : List (List UInt8 × FileE)} (h : DiskM w S a size mo fs) (n : List UInt8) (c : Option Addr × Nat × Nat × Int)
    (hat : ∀ zd, (dmap fs).atKey (.string n) zd = .held (mkF c)) : ∃ f, (n, f) ∈ fs ∧ f.val = mkF c ∧ c.2.1 = f.bs.length := by
  have h1 := hat .nil
  unfold DataW.atKey dmap at h1
  simp only [find_dmap] at h1
  cases hf : fs.find? (fun p => p.1 == n) with
  | none => rw [hf] at h1; cases h1
  | some p =>
    rw [hf] at h1
    simp only [Option.map_some, DataW.held.injEq] at h1
    have hm := List.mem_of_find?_eq_some hf
    have hk := List.find?_some hf
    simp at hk
    obtain ⟨oa, cap, e⟩ := (h.owns p hm).1.shape
    refine ⟨p.2, by rw [← hk]; exact hm, h1, ?_⟩
    unfold FileE.val mkF at h1
    rw [e] at h1
    simp at h1
    exact h1.1.2.1.symm

set_option maxHeartbeats 1000000 in
theorem free_some {w : World} {S : Nat → Prop} {a size : Nat} {b : Nat} {fs : List (List UInt8 × FileE)} (h : DiskM w S a size (some b) fs) :
    Calls Try.prog 49 #[.pointer (some ⟨a, 0, none⟩)] w fun e w' => e = .returned (.int .i64 ((size - total fs : Nat) : Int)) ∧ Below w.heap.size w w' := by
  have c0 := h.c0
  have c1 := h.c1
  have hroom := h.room
  have hsmall := h.small
  have hkeys := h.keys
  have hof := h.of_at
  have hown : w.ownsMap Try.prog 9 Rh b fs.length (dmap fs) := h.files
  have hbl := hown.lt
  have H : Hid (DiskM w S a size (some b) fs) := h
  clear h
  go_enter Try.func49, Try.ntmps49
  go_wp2_with (first
    | (at_range; refine wpList_range_own _ rfl _ 56 rfl 9 77 law9 Try.underlying56 _ b fs.length _ rfl hown ?_; intro w0 hrg0 hg0 hs0)
    | go_in)
  go_frame
  go_loopw [3] (fun fr wr => ∃ (left : Lit → Bool) (cnt : Nat), wr.ranges Try.prog 9 Rh b w.heap.size fs.length (dmap fs) left cnt ∧ fr = .int .i64 ((size - doneB left fs : Nat) : Int) ∧ Below w.heap.size w wr ∧ w.heap.size < wr.heap.size)
    (fun _ wr => wr.rangeLeft b w.heap.size)
  case atStart =>
    refine ⟨_, _, hrg0, ?_, (Below.refl _ _).grown hg0 (Nat.le_refl _) (fun j hj => by cases hj), by omega⟩
    rw [doneB_start _ fs (fun p hp => by rw [dmap_has]; unfold flook; simp only [Option.isSome_map]; exact List.find?_isSome.2 ⟨p, hp, by simp⟩)]
    rfl
  case round =>
    obtain ⟨left, cnt, hrg, rfl, hnx, hsz⟩ := hrel
    have hdl := doneB_le left fs
    go_wp2_with (first
      | (at_next; refine wpList_next_ranges _ rfl _ rfl 9 law9 Rh encStr (fun c : Option Addr × Nat × Nat × Int => Value.agg #[.slice c.1 c.2.1 c.2.2.1, .int .i64 c.2.2.2]) (fun key kl hkey => by obtain ⟨x, rfl, _⟩ := Maps.keyOf_str Try.underlying9 hkey; exact ⟨_, rfl⟩) (fun v y hv => (Rh_inv hv).1) b w.heap.size fs.length (dmap fs) left cnt rfl hrg ?_ ?_)
      | go_in)
    · intro hc0 hl0
      go_wp2
      go_ret
      rw [doneB_end left hl0]
      exact ⟨rfl, hnx⟩
    · intro x oa l cap sf kl y1 y2 w1 cnt1 hkey hlx hRy hat hrg1 hlt hg1 hs1 hen
      obtain ⟨x', hx', hkl, _⟩ := Maps.keyOf_str Try.underlying9 hkey
      cases encStr_inj hx'
      subst hkl
      have hy := (Rh_inv hRy).2
      simp only [Prod.mk.injEq] at hy
      obtain ⟨f, hm, hv, hl⟩ := hof x (oa, l, cap, sf) (fun zd => (hat zd).trans hy.1)
      have hstep := doneB_step left x f fs hkeys hm hlx
      have hle2 := doneB_le (fun z => left z && !z.sameKey (.string x)) fs
      simp only at hl
      have hlb : l ≤ size - doneB left fs := by omega
      have HS : Hid (doneB (fun z => left z && !z.sameKey (.string x)) fs = doneB left fs + l) := by rw [hl]; exact hstep
      clear hstep hat hv hy hRy hkey hx' hof hl hle2
      go_wp2
      go_roundw
      case rel =>
        refine ⟨_, cnt1, hrg1.alloc _, ?_, (hnx.grown hg1 hnx.size (fun j hj => by cases hj; exact Nat.le_refl _)).alloc (by omega) _, by simp; omega⟩
        rw [HS.out]
        go_num
      case measure => rw [(hrg1.alloc _).left_eq, hrg.left_eq]; exact hlt

set_option maxHeartbeats 400000 in
theorem free_none {w : World} {S : Nat → Prop} {a size : Nat} {fs : List (List UInt8 × FileE)} (h : DiskM w S a size none fs) :
    Calls Try.prog 49 #[.pointer (some ⟨a, 0, none⟩)] w fun e w' => e = .returned (.int .i64 ((size - total fs : Nat) : Int)) ∧ Below w.heap.size w w' := by
  have c0 := h.c0
  have c1 := h.c1
  have hfs : fs = [] := h.files
  subst hfs
  clear h
  have hrg := run_range_nilMap (P := Try.prog) w 56 9 77 Try.underlying56
  have hnx : ∀ ty, (Instr.next (.pointer (some ⟨w.heap.size, 0, none⟩)) false ty).run Try.prog (w.alloc (.mapIter none 0 #[] 0)) = _ := fun ty => run_next_nilMap _ ty 0 0 #[]
  go_enter Try.func49, Try.ntmps49
  go_wp2
  refine wp_loop_rounds 1 ?_
  rw [rounds_succ]
  go_wp2
  go_ret
  exact ⟨rfl, (Below.refl _ _).alloc (Nat.le_refl _) _⟩

theorem free_any {w : World} {S : Nat → Prop} {a size : Nat} {mo : Option Nat} {fs : List (List UInt8 × FileE)} (h : DiskM w S a size mo fs) :
    Calls Try.prog 49 #[.pointer (some ⟨a, 0, none⟩)] w fun e w' => e = .returned (.int .i64 ((size - total fs : Nat) : Int)) ∧ Below w.heap.size w w' := by
  cases mo with
  | none => exact free_none h
  | some b => exact free_some h

set_option maxHeartbeats 400000 in
theorem admit_bad {w : World} {a : Nat} (n : ByteArray) (hn : n.size ≤ maxLen) (hb : nameB n = false) :
    Calls Try.prog 48 #[.pointer (some ⟨a, 0, none⟩), .string n] w fun e w' => e = .returned (.int .i64 1) ∧ w' = w := by
  go_enter Try.func48, Try.ntmps48
  go_wp2_with (go_at_call 59; refine (isName_any _ _ hn).mono ?_; rintro e w' ⟨rfl, rfl⟩; rw [hb])
  go_ret
  exact ⟨rfl, rfl⟩

set_option maxHeartbeats 400000 in
theorem admit_there {w : World} {S : Nat → Prop} {a size : Nat} {mo : Option Nat} {fs : List (List UInt8 × FileE)} (h : DiskM w S a size mo fs) (n : ByteArray) (hn : n.size ≤ maxLen) (hb : nameB n = true) (hs : (flook fs n.data.toList).isSome = true) :
    Calls Try.prog 48 #[.pointer (some ⟨a, 0, none⟩), .string n] w fun e w' => e = .returned (.int .i64 0) ∧ Below w.heap.size w w' := by
  have c1 := h.c1
  have hl := h.files.look_ok n hn
  obtain ⟨oa, cap, e, _⟩ := h.at_name n.data.toList
  rw [e, hs] at hl
  clear h e hs
  go_enter Try.func48, Try.ntmps48
  go_wp2_with (go_at_call 59; refine (isName_any _ _ hn).mono ?_; rintro e w' ⟨rfl, rfl⟩; rw [hb])
  go_ret
  exact ⟨rfl, (Below.refl _ _).alloc (Nat.le_refl _) _⟩

set_option maxHeartbeats 400000 in
theorem admit_new {w : World} {S : Nat → Prop} {a size : Nat} {mo : Option Nat} {fs : List (List UInt8 × FileE)} (h : DiskM w S a size mo fs) (n : ByteArray) (hn : n.size ≤ maxLen) (hb : nameB n = true) (hs : (flook fs n.data.toList).isSome = false) :
    Calls Try.prog 48 #[.pointer (some ⟨a, 0, none⟩), .string n] w fun e w' => e = .returned (.int .i64 (if fs.length < 256 then 0 else 3)) ∧ Below w.heap.size w w' := by
  have hal := h.below a h.self
  have c1 := h.c1
  have c2 : ∀ o, (w.alloc o).cell? ⟨a, 1, none⟩ = some (.map mo) := fun o => (World.cell?_of_block (a := ⟨a, 1, none⟩) (Below.heap_alloc w o a hal)).trans c1
  have hln : ∀ o ty, (Builtin.len_ #[56] ty #[.map mo]).run Try.prog (w.alloc o) = .ok (.int .i64 (fs.length : Int)) (w.alloc o) := fun o ty => (h.files.kept (fun b hb => Below.heap_alloc w o b (h.files.lt b hb))).len ty
  have hl := h.files.look_ok n hn
  obtain ⟨oa, cap, e, _⟩ := h.at_name n.data.toList
  rw [e, hs] at hl
  clear h e hs
  by_cases h256 : fs.length < 256
  · have h3 : ¬ ((256 : Int) ≤ (fs.length : Int)) := by omega
    rw [if_pos h256]
    go_enter Try.func48, Try.ntmps48
    go_wp2_with (go_at_call 59; refine (isName_any _ _ hn).mono ?_; rintro e w' ⟨rfl, rfl⟩; rw [hb])
    go_ret
    exact ⟨rfl, (Below.refl _ _).alloc (Nat.le_refl _) _⟩
  · have h3 : ((256 : Int) ≤ (fs.length : Int)) := by omega
    rw [if_neg h256]
    go_enter Try.func48, Try.ntmps48
    go_wp2_with (go_at_call 59; refine (isName_any _ _ hn).mono ?_; rintro e w' ⟨rfl, rfl⟩; rw [hb])
    go_ret
    exact ⟨rfl, (Below.refl _ _).alloc (Nat.le_refl _) _⟩
end Go.Proofs.Ytlgaianlkbaedaa

/- What stays of a disk while other memory is turned; what kept, Sync and Replace do. -/
namespace Go.Proofs.Ytlgaianlkbaedaa
open Go.RowKit Go.Maps
open Go.WideMaps (keyOf_string_mk)
set_option maxRecDepth 100000
set_option linter.unusedSimpArgs false
set_option linter.unusedVariables false

theorem DiskM.kept {w w1 : World} {S : Nat → Prop} {a size : Nat} {mo : Option Nat} {fs : List (List UInt8 × FileE)} (h : DiskM w S a size mo fs) (hb : ∀ k, S k → w1.heap[k]? = w.heap[k]?) (hs : w.heap.size ≤ w1.heap.size) : DiskM w1 S a size mo fs :=
  ⟨fun k hk => Nat.lt_of_lt_of_le (h.below k hk) hs, h.self, (hb a h.self).trans h.cells, h.files.kept (fun b e => hb b (h.mapS b e)), h.mapS, fun p hp => ⟨(h.owns p hp).1.kept (fun _ hk => hk) (fun k hk => hb k ((h.owns p hp).1.lt k hk).1), (h.owns p hp).2⟩, h.apart, h.room, h.small, h.few⟩

theorem DiskM.under {w w1 : World} {S : Nat → Prop} {a size : Nat} {mo : Option Nat} {fs : List (List UInt8 × FileE)} (h : DiskM w S a size mo fs) (hb : Below w.heap.size w w1) : DiskM w1 S a size mo fs :=
  h.kept (fun k hk => hb.block k (h.below k hk)) hb.size

theorem DiskM.beside {w w1 : World} {S T : Nat → Prop} {a size : Nat} {mo : Option Nat} {fs : List (List UInt8 × FileE)} (h : DiskM w S a size mo fs) (hk : Keeps T w w1) (hd : ∀ k, S k → ¬ T k) : DiskM w1 S a size mo fs :=
  h.kept (fun k hS => hk.block k (h.below k hS) (hd k hS)) hk.size

theorem DiskM.more {w : World} {S T : Nat → Prop} {a size : Nat} {mo : Option Nat} {fs : List (List UInt8 × FileE)} (h : DiskM w S a size mo fs) (hS : ∀ k, S k → T k) (hT : ∀ k, T k → k < w.heap.size) : DiskM w T a size mo fs :=
  ⟨hT, hS a h.self, h.cells, h.files, fun b e => hS b (h.mapS b e), fun p hp => ⟨(h.owns p hp).1.kept hS (fun _ _ => rfl), (h.owns p hp).2⟩, h.apart, h.room, h.small, h.few⟩

theorem Keeps.refl (S : Nat → Prop) (w : World) : Keeps S w w := ⟨rfl, rfl, rfl, Nat.le_refl _, fun _ _ _ => rfl⟩
theorem Keeps.of_below {S : Nat → Prop} {w w1 : World} (h : Below w.heap.size w w1) : Keeps S w w1 := ⟨h.os, h.tape, h.output, h.size, fun k hk _ => h.block k hk⟩
theorem Keeps.trans {S T : Nat → Prop} {w w1 w2 : World} (h : Keeps S w w1) (k : Keeps T w1 w2) (hT : ∀ x, T x → S x ∨ w.heap.size ≤ x) : Keeps S w w2 :=
  ⟨k.os.trans h.os, k.tape.trans h.tape, k.output.trans h.output, Nat.le_trans h.size k.size, fun x hx hS => (k.block x (Nat.lt_of_lt_of_le hx h.size) (fun ht => by rcases hT x ht with h1 | h1; exact hS h1; omega)).trans (h.block x hx hS)⟩
theorem Keeps.below {S : Nat → Prop} {w w1 : World} {B : Nat} (h : Keeps S w w1) (hB : B ≤ w.heap.size) (hS : ∀ k, S k → B ≤ k) : Below B w w1 :=
  ⟨h.os, h.tape, h.output, h.size, fun k hk => h.block k (by omega) (fun hs => by have := hS k hs; omega)⟩

/-- What a call leaves of a disk: the disk with other files, its blocks old or new. -/
def After (S : Nat → Prop) (w w' : World) (a size : Nat) (fs : List (List UInt8 × FileE)) : Prop :=
  ∃ S' mo', DiskM w' S' a size mo' fs ∧ (∀ k, S' k → S k ∨ w.heap.size ≤ k) ∧ (∀ k, S k → S' k) ∧ Keeps S w w'

/-- The numbers of a crash. -/
def dIntsAt (w : World) (oa : Option Addr) (ks : List Int) : Prop :=
  ks = [] ∨ ∃ b off, oa = some ⟨b, off, none⟩ ∧ ∀ j (hj : j < ks.length), w.cell? ⟨b, off + j, none⟩ = some (.int .i64 ks[j]) ∧ -9223372036854775808 ≤ ks[j] ∧ ks[j] ≤ 9223372036854775807

theorem dIntsAt.kept {w w1 : World} {oa : Option Addr} {ks : List Int} (h : dIntsAt w oa ks) (hb : ∀ b off, oa = some ⟨b, off, none⟩ → w1.heap[b]? = w.heap[b]?) : dIntsAt w1 oa ks := by
  rcases h with h | ⟨b, off, e, h⟩
  · exact .inl h
  · exact .inr ⟨b, off, e, fun j hj => ⟨(World.cell?_of_block (a := ⟨b, off + j, none⟩) (hb b off e)).trans (h j hj).1, (h j hj).2⟩⟩

def keptN (ks : List Int) (i loose : Nat) : Nat :=
  match ks[i]? with
  | none => 0
  | some k => ((if k < 0 then -(k + 1) else k) % ((loose : Int) + 1)).toNat

theorem keptN_le (ks : List Int) (i loose : Nat) : keptN ks i loose ≤ loose := by
  unfold keptN
  split
  · omega
  · rename_i k _
    have h1 := Int.emod_lt_of_pos (if k < 0 then -(k + 1) else k) (show 0 < (loose : Int) + 1 by omega)
    have h2 := Int.emod_nonneg (if k < 0 then -(k + 1) else k) (show (loose : Int) + 1 ≠ 0 by omega)
    omega

theorem dnot_neg (k : Int) (h1 : -9223372036854775808 ≤ k) (h2 : k < 0) : bits .xor .i64 (-1) k = -(k + 1) := by
  show IntKind.i64.wrap ((BitVec.ofInt 64 (-1) ^^^ BitVec.ofInt 64 k).toNat : Int) = _
  have e1 : BitVec.ofInt 64 (-1) = BitVec.allOnes 64 := by decide
  rw [e1, BitVec.allOnes_xor, BitVec.toNat_not, BitVec.toNat_ofInt]
  simp [IntKind.wrap, IntKind.bits, IntKind.signed]
  omega

set_option maxHeartbeats 400000 in
theorem kept_any (w : World) (oa : Option Addr) (ks : List Int) (cap i loose : Nat) (hk : dIntsAt w oa ks) (hlen : ks.length ≤ maxLen) (hi : i ≤ 256) (hl : loose ≤ 16777216) :
    Calls Try.prog 35 #[.slice oa ks.length cap, .int .i64 (i : Int), .int .i64 (loose : Int)] w fun e w' => e = .returned (.int .i64 (keptN ks i loose : Int)) ∧ w' = w := by
  unfold maxLen at hlen
  by_cases hik : i < ks.length
  · rcases hk with rfl | ⟨b, off, rfl, hc⟩
    · simp at hik
    · obtain ⟨hc1, h1, h2⟩ := hc i hik
      clear hc
      have hn : ¬ ((ks.length : Int) ≤ (i : Int)) := by omega
      have hik' : (i : Int) < (ks.length : Int) := by omega
      have e0 : ks[i]? = some ks[i] := by simp [hik]
      generalize ks[i] = k at *
      have hfin : Hid ((keptN ks i loose : Int) = (if k < 0 then -(k + 1) else k) % ((loose : Int) + 1)) := by
        show (keptN ks i loose : Int) = _
        unfold keptN
        rw [e0]
        exact Int.toNat_of_nonneg (Int.emod_nonneg _ (by omega))
      clear e0
      by_cases hneg : k < 0
      · go_enter Try.func35, Try.ntmps35
        go_wp2
        go_ret
        refine ⟨ret_int ?_, rfl⟩
        rw [hfin.out, if_pos hneg]
        rw [dnot_neg k h1 hneg]
        exact Int.tmod_eq_emod_of_nonneg (by omega)
      · go_enter Try.func35, Try.ntmps35
        go_wp2
        go_ret
        refine ⟨ret_int ?_, rfl⟩
        rw [hfin.out, if_neg (by omega)]
  · have hn : ((ks.length : Int) ≤ (i : Int)) := by omega
    have hfin : Hid (keptN ks i loose = 0) := by
      show _ = 0
      unfold keptN
      rw [List.getElem?_eq_none (by omega)]
    go_enter Try.func35, Try.ntmps35
    go_wp2
    go_ret
    exact ⟨ret_int (by rw [hfin.out]; rfl), rfl⟩

theorem After.trans_below {S : Nat → Prop} {w w1 w2 : World} {a size : Nat} {fs : List (List UInt8 × FileE)} (hb : Below w.heap.size w w1) (h : After S w1 w2 a size fs) : After S w w2 a size fs := by
  obtain ⟨S', mo', hd, h1, h2, h3⟩ := h
  refine ⟨S', mo', hd, fun k hk => ?_, h2, (Keeps.of_below hb).trans h3 (fun x hx => .inl hx)⟩
  rcases h1 k hk with h | h
  · exact .inl h
  · exact .inr (Nat.le_trans hb.size h)

theorem After.then_below {S : Nat → Prop} {w w1 w2 : World} {a size : Nat} {fs : List (List UInt8 × FileE)} (h : After S w w1 a size fs) (hb : Below w1.heap.size w1 w2) : After S w w2 a size fs := by
  obtain ⟨S', mo', hd, h1, h2, h3⟩ := h
  exact ⟨S', mo', hd.under hb, h1, h2, h3.trans (T := fun _ => False) (Keeps.of_below hb) (fun x hx => hx.elim)⟩

theorem After.same {S : Nat → Prop} {w w1 : World} {a size : Nat} {mo : Option Nat} {fs : List (List UInt8 × FileE)} (h : DiskM w S a size mo fs) (hb : Below w.heap.size w w1) : After S w w1 a size fs :=
  ⟨S, mo, h.under hb, fun _ hk => .inl hk, fun _ hk => hk, Keeps.of_below hb⟩

theorem After.then {S S1 : Nat → Prop} {w w1 w2 : World} {a size : Nat} {fs2 : List (List UInt8 × FileE)} (hk : Keeps S w w1) (h1 : ∀ k, S1 k → S k ∨ w.heap.size ≤ k) (h2 : ∀ k, S k → S1 k) (h : After S1 w1 w2 a size fs2) : After S w w2 a size fs2 := by
  obtain ⟨S', mo', hd, g1, g2, g3⟩ := h
  refine ⟨S', mo', hd, fun k hk' => ?_, fun k hS => g2 k (h2 k hS), hk.trans g3 h1⟩
  rcases g1 k hk' with h | h
  · exact h1 k h
  · exact .inr (Nat.le_trans hk.size h)

theorem flook_isSome_iff {fs : List (List UInt8 × FileE)} {n : List UInt8} : (flook fs n).isSome = true ↔ ∃ p ∈ fs, p.1 = n := by
  unfold flook
  rw [Option.isSome_map, List.find?_isSome]
  simp

theorem len_fdel_there {fs : List (List UInt8 × FileE)} {n : List UInt8} (h : (flook fs n).isSome = true) : (fdel fs n).length + 1 ≤ fs.length := by
  obtain ⟨p, hp, he⟩ := flook_isSome_iff.1 h
  unfold fdel
  have := List.length_filter_lt_length_iff_exists (p := fun p : List UInt8 × FileE => !(p.1 == n)) (l := fs)
  have h2 := this.2 ⟨p, hp, by simp [he]⟩
  omega

theorem len_fdel_le (fs : List (List UInt8 × FileE)) (n : List UInt8) : (fdel fs n).length ≤ fs.length := List.length_filter_le _ _

theorem len_fput (fs : List (List UInt8 × FileE)) (n : List UInt8) (f : FileE) : (fput fs n f).length = (fdel fs n).length + 1 := len_fins _ _
theorem total_fput (fs : List (List UInt8 × FileE)) (n : List UInt8) (f : FileE) : total (fput fs n f) = f.bs.length + total (fdel fs n) := total_fins _ _

theorem pair_all {α : Type} (T : α → α → Prop) (hs : ∀ p q, T p q → T q p) : ∀ l : List α, l.Pairwise T → ∀ x ∈ l, ∀ y ∈ l, x ≠ y → T x y
  | [], _, x, hx, _, _, _ => by cases hx
  | z :: r, h, x, hx, y, hy, hne => by
    have h' := List.pairwise_cons.1 h
    rcases List.mem_cons.1 hx with rfl | hx
    · rcases List.mem_cons.1 hy with rfl | hy
      · exact absurd rfl hne
      · exact h'.1 y hy
    · rcases List.mem_cons.1 hy with e | hy
      · rw [e]; exact hs _ _ (h'.1 x hx)
      · exact pair_all T hs r h'.2 x hx y hy hne

/-- The files but for one name lie in other blocks than that name's. -/
theorem apart_at {fs : List (List UInt8 × FileE)} (hA : fs.Pairwise (fun p q => ∀ k, p.2.sv.ownBlock = some k → q.2.sv.ownBlock ≠ some k)) {n : List UInt8} {f : FileE} (hf : flook fs n = some f) :
    ∀ p ∈ fs, p.1 ≠ n → ∀ k, f.sv.ownBlock = some k → p.2.sv.ownBlock ≠ some k := by
  have hm := flook_mem hf
  intro p hp hne k hk hq
  have hsym := fun x hx y hy hxy => pair_all _ (fun u v (h : ∀ k, u.2.sv.ownBlock = some k → v.2.sv.ownBlock ≠ some k) j hj hv => h j hv hj) fs hA x hx y hy hxy
  exact hsym _ hm p hp (fun e => hne (by rw [← e])) k hk hq

set_option maxHeartbeats 400000 in
theorem sync_yes {w : World} {S : Nat → Prop} {a size : Nat} {mo : Option Nat} {fs : List (List UInt8 × FileE)} (h : DiskM w S a size mo fs) (n : ByteArray) (hn : n.size ≤ maxLen) (f : FileE) (hf : flook fs n.data.toList = some f) :
    Calls Try.prog 29 #[.pointer (some ⟨a, 0, none⟩), .string n] w fun e w' => e = .returned (.int .i64 0) ∧ After S w w' a size (fput fs n.data.toList ⟨f.sv, f.bs, f.bs.length⟩) := by
  have c1 := h.c1
  have hl := h.files.look_ok n hn
  have hbf := (h.owns _ (flook_mem hf)).1
  have hap := apart_at h.apart hf
  obtain ⟨sv, bs, safe⟩ := f
  simp only at hbf hap ⊢
  obtain ⟨oa, cap, e⟩ := hbf.shape
  subst e
  have ht := total_fdel_le fs n.data.toList
  have hle : lenAt fs n.data.toList = bs.length := by unfold lenAt; rw [hf]
  have hsome : (flook fs n.data.toList).isSome = true := by rw [hf]; rfl
  have hr := h.room
  have hfw := h.few
  have hd := len_fdel_there hsome
  have ev : fval fs n.data.toList = .agg #[.slice oa bs.length cap, .int .i64 (safe : Int)] := by unfold fval; rw [hf]; rfl
  rw [ev, hsome] at hl
  have HP : Hid (∀ W, Below w.heap.size w W → Calls Try.prog 36 #[.pointer (some ⟨a, 0, none⟩), .string n, .agg #[.slice oa bs.length cap, .int .i64 (bs.length : Int)]] W fun e w' => e = .returned (.tuple #[]) ∧ After S w w' a size (fput fs n.data.toList ⟨.slice oa bs.length cap, bs, bs.length⟩)) := by
    intro W hW
    have := put_any (h.under hW) n hn ⟨.slice oa bs.length cap, bs, bs.length⟩ (hbf.kept (fun _ hk => hk) (fun k hk => hW.block k (hbf.lt k hk).2)) (Nat.le_refl _) hap (by rw [total_fput]; simp only; omega) (by rw [len_fput]; omega)
    exact this.mono (fun e w' ⟨h1, h2⟩ => ⟨h1, After.trans_below hW h2⟩)
  clear h hbf ev hf hsome hap
  go_enter Try.func29, Try.ntmps29
  go_wp2_with (go_at_call 36; refine (HP.out _ ((Below.refl _ _).alloc (Nat.le_refl _) _)).mono ?_; rintro e w' ⟨rfl, hA⟩)
  go_ret
  exact ⟨rfl, hA⟩

set_option maxHeartbeats 400000 in
theorem sync_no {w : World} {S : Nat → Prop} {a size : Nat} {mo : Option Nat} {fs : List (List UInt8 × FileE)} (h : DiskM w S a size mo fs) (n : ByteArray) (hn : n.size ≤ maxLen) (hs : (flook fs n.data.toList).isSome = false) :
    Calls Try.prog 29 #[.pointer (some ⟨a, 0, none⟩), .string n] w fun e w' => e = .returned (.int .i64 8) ∧ Below w.heap.size w w' := by
  have c1 := h.c1
  have hl := h.files.look_ok n hn
  obtain ⟨oa, cap, e, hb, _⟩ := h.at_name n.data.toList
  rw [e, hs] at hl
  clear h e hs hb
  go_enter Try.func29, Try.ntmps29
  go_wp2
  go_ret
  exact ⟨rfl, (Below.refl _ _).alloc (Nat.le_refl _) _⟩
end Go.Proofs.Ytlgaianlkbaedaa

