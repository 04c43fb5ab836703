/- What Free and admit do. -/
import Derived.Test.YtpdghpmfacaglaaNames
namespace Go.Proofs.Ytpdghpmfacaglaa
open Go.RowKit Go.Maps
open Go.WideMaps (keyOf_string_mk)
set_option maxRecDepth 100000
set_option linter.unusedSimpArgs false

theorem MapAt.len {w : World} {mo : Option Nat} {fs : List (List UInt8 × FileE)} (h : MapAt w mo fs) (ty : TypeId) : (Builtin.len_ #[54] ty #[.map mo]).run Try.prog w = .ok (.int .i64 (fs.length : Int)) w := by
  cases mo with
  | none => have e : fs = [] := h; subst e; exact Maps.len_nil Try.underlying54 ty
  | some b =>
    have := World.ownsMap.len h Try.underlying54 ty
    rw [dmap_size] at this
    exact this

def doneB (left : Lit → Bool) : List (List UInt8 × FileE) → Nat
  | [] => 0
  | p :: r => (if left (.string p.1) then 0 else p.2.bs.length) + doneB left r

theorem doneB_start (left : Lit → Bool) : ∀ fs : List (List UInt8 × FileE), (∀ p ∈ fs, left (.string p.1) = true) → doneB left fs = 0
  | [], _ => rfl
  | p :: r, h => by simp [doneB, h p (by simp), doneB_start left r (fun q hq => h q (by simp [hq]))]

theorem doneB_end (left : Lit → Bool) (hl : ∀ kl, left kl = false) : ∀ fs : List (List UInt8 × FileE), doneB left fs = total fs
  | [] => rfl
  | p :: r => by simp [doneB, total, hl, doneB_end left hl r]

theorem doneB_le (left : Lit → Bool) : ∀ fs : List (List UInt8 × FileE), doneB left fs ≤ total fs
  | [] => Nat.le_refl _
  | p :: r => by have := doneB_le left r; simp only [doneB, total]; split <;> omega

theorem doneB_other (left : Lit → Bool) (n : List UInt8) : ∀ fs : List (List UInt8 × FileE), (∀ p ∈ fs, p.1 ≠ n) → doneB (fun z => left z && !z.sameKey (.string n)) fs = doneB left fs
  | [], _ => rfl
  | p :: r, h => by
    have h1 : (p.1 == n) = false := by simpa using h p (by simp)
    simp [doneB, sk, h1, doneB_other left n r (fun q hq => h q (by simp [hq]))]

theorem doneB_step (left : Lit → Bool) (n : List UInt8) (f : FileE) : ∀ fs : List (List UInt8 × FileE), fs.Pairwise (fun p q => p.1 ≠ q.1) → (n, f) ∈ fs → left (.string n) = true →
    doneB (fun z => left z && !z.sameKey (.string n)) fs = doneB left fs + f.bs.length
  | [], _, h, _ => by cases h
  | p :: r, hp, h, hl => by
    have hp' := List.pairwise_cons.1 hp
    rcases List.mem_cons.1 h with rfl | h
    · have := doneB_other left n r (fun q hq => (hp'.1 q hq).symm)
      simp only [doneB, this, sk, hl]
      simp
      omega
    · have h1 : (p.1 == n) = false := by simpa using hp'.1 _ h
      have := doneB_step left n f r hp'.2 h hl
      simp only [doneB, this, sk, h1]
      simp
      omega

theorem DiskM.keys {w : World} {S : Nat → Prop} {a size : Nat} {mo : Option Nat} {fs : List (List UInt8 × FileE)} (h : DiskM w S a size mo fs) : fs.Pairwise (fun p q => p.1 ≠ q.1) :=
  h.rising.imp (fun {p q} hb e => by rw [e, WideAt.bytes_irrefl] at hb; cases hb)

/-- What comes out of the range is a file. -/
theorem DiskM.of_at {w : World} {S : Nat → Prop} {a size : Nat} {mo : Option Nat} {fs : List (List UInt8 × FileE)} (h : DiskM w S a size mo fs) (n : List UInt8) (c : Option Addr × Nat × Nat × Int)
    (hat : ∀ zd, (dmap fs).atKey (.string n) zd = .held (mkF c)) : ∃ f, (n, f) ∈ fs ∧ f.val = mkF c ∧ c.2.1 = f.bs.length := by
  have h1 := hat .nil
  unfold DataW.atKey dmap at h1
  simp only [find_dmap] at h1
  cases hf : fs.find? (fun p => p.1 == n) with
  | none => rw [hf] at h1; cases h1
  | some p =>
    rw [hf] at h1
    simp only [Option.map_some, DataW.held.injEq] at h1
    have hm := List.mem_of_find?_eq_some hf
    have hk := List.find?_some hf
    simp at hk
    obtain ⟨oa, cap, e⟩ := (h.owns p hm).1.shape
    refine ⟨p.2, by rw [← hk]; exact hm, h1, ?_⟩
    unfold FileE.val mkF at h1
    rw [e] at h1
    simp at h1
    exact h1.1.2.1.symm

set_option maxHeartbeats 1000000 in
theorem free_some {w : World} {S : Nat → Prop} {a size : Nat} {b : Nat} {fs : List (List UInt8 × FileE)} (h : DiskM w S a size (some b) fs) :
    Calls Try.prog 21 #[.pointer (some ⟨a, 0, none⟩)] w fun e w' => e = .returned (.int .i64 ((size - total fs : Nat) : Int)) ∧ Below w.heap.size w w' := by
  have c0 := h.c0
  have c1 := h.c1
  have hroom := h.room
  have hsmall := h.small
  have hkeys := h.keys
  have hof := h.of_at
  have hown : w.ownsMap Try.prog 9 Rh b fs.length (dmap fs) := h.files
  have hbl := hown.lt
  have H : Hid (DiskM w S a size (some b) fs) := h
  clear h
  go_enter Try.func21, Try.ntmps21
  go_wp2_with (first
    | (at_range; refine wpList_range_own _ rfl _ 54 rfl 9 65 law9 Try.underlying54 _ b fs.length _ rfl hown ?_; intro w0 hrg0 hg0 hs0)
    | go_in)
  go_frame
  go_loopw [3] (fun fr wr => ∃ (left : Lit → Bool) (cnt : Nat), wr.ranges Try.prog 9 Rh b w.heap.size fs.length (dmap fs) left cnt ∧ fr = .int .i64 ((size - doneB left fs : Nat) : Int) ∧ Below w.heap.size w wr ∧ w.heap.size < wr.heap.size)
    (fun _ wr => wr.rangeLeft b w.heap.size)
  case atStart =>
    refine ⟨_, _, hrg0, ?_, (Below.refl _ _).grown hg0 (Nat.le_refl _) (fun j hj => by cases hj), by omega⟩
    rw [doneB_start _ fs (fun p hp => by rw [dmap_has]; unfold flook; simp only [Option.isSome_map]; exact List.find?_isSome.2 ⟨p, hp, by simp⟩)]
    rfl
  case round =>
    obtain ⟨left, cnt, hrg, rfl, hnx, hsz⟩ := hrel
    have hdl := doneB_le left fs
    go_wp2_with (first
      | (at_next; refine wpList_next_ranges _ rfl _ rfl 9 law9 Rh encStr (fun c : Option Addr × Nat × Nat × Int => Value.agg #[.slice c.1 c.2.1 c.2.2.1, .int .i64 c.2.2.2]) (fun key kl hkey => by obtain ⟨x, rfl, _⟩ := Maps.keyOf_str Try.underlying9 hkey; exact ⟨_, rfl⟩) (fun v y hv => (Rh_inv hv).1) b w.heap.size fs.length (dmap fs) left cnt rfl hrg ?_ ?_)
      | go_in)
    · intro hc0 hl0
      go_wp2
      go_ret
      rw [doneB_end left hl0]
      exact ⟨rfl, hnx⟩
    · intro x oa l cap sf kl y1 y2 w1 cnt1 hkey hlx hRy hat hrg1 hlt hg1 hs1 hen
      obtain ⟨x', hx', hkl, _⟩ := Maps.keyOf_str Try.underlying9 hkey
      cases encStr_inj hx'
      subst hkl
      have hy := (Rh_inv hRy).2
      simp only [Prod.mk.injEq] at hy
      obtain ⟨f, hm, hv, hl⟩ := hof x (oa, l, cap, sf) (fun zd => (hat zd).trans hy.1)
      have hstep := doneB_step left x f fs hkeys hm hlx
      have hle2 := doneB_le (fun z => left z && !z.sameKey (.string x)) fs
      simp only at hl
      have hlb : l ≤ size - doneB left fs := by omega
      have HS : Hid (doneB (fun z => left z && !z.sameKey (.string x)) fs = doneB left fs + l) := by rw [hl]; exact hstep
      clear hstep hat hv hy hRy hkey hx' hof hl hle2
      go_wp2
      go_roundw
      case rel =>
        refine ⟨_, cnt1, hrg1.alloc _, ?_, (hnx.grown hg1 hnx.size (fun j hj => by cases hj; exact Nat.le_refl _)).alloc (by omega) _, by simp; omega⟩
        rw [HS.out]
        go_num
      case measure => rw [(hrg1.alloc _).left_eq, hrg.left_eq]; exact hlt

set_option maxHeartbeats 400000 in
theorem free_none {w : World} {S : Nat → Prop} {a size : Nat} {fs : List (List UInt8 × FileE)} (h : DiskM w S a size none fs) :
    Calls Try.prog 21 #[.pointer (some ⟨a, 0, none⟩)] w fun e w' => e = .returned (.int .i64 ((size - total fs : Nat) : Int)) ∧ Below w.heap.size w w' := by
  have c0 := h.c0
  have c1 := h.c1
  have hfs : fs = [] := h.files
  subst hfs
  clear h
  have hrg := run_range_nilMap (P := Try.prog) w 54 9 65 Try.underlying54
  have hnx : ∀ ty, (Instr.next (.pointer (some ⟨w.heap.size, 0, none⟩)) false ty).run Try.prog (w.alloc (.mapIter none 0 #[] 0)) = _ := fun ty => run_next_nilMap _ ty 0 0 #[]
  go_enter Try.func21, Try.ntmps21
  go_wp2
  refine wp_loop_rounds 1 ?_
  rw [rounds_succ]
  go_wp2
  go_ret
  exact ⟨rfl, (Below.refl _ _).alloc (Nat.le_refl _) _⟩

theorem free_any {w : World} {S : Nat → Prop} {a size : Nat} {mo : Option Nat} {fs : List (List UInt8 × FileE)} (h : DiskM w S a size mo fs) :
    Calls Try.prog 21 #[.pointer (some ⟨a, 0, none⟩)] w fun e w' => e = .returned (.int .i64 ((size - total fs : Nat) : Int)) ∧ Below w.heap.size w w' := by
  cases mo with
  | none => exact free_none h
  | some b => exact free_some h

set_option maxHeartbeats 400000 in
theorem admit_bad {w : World} {a : Nat} (n : ByteArray) (hn : n.size ≤ maxLen) (hb : nameB n = false) :
    Calls Try.prog 44 #[.pointer (some ⟨a, 0, none⟩), .string n] w fun e w' => e = .returned (.int .i64 1) ∧ w' = w := by
  go_enter Try.func44, Try.ntmps44
  go_wp2_with (go_at_call 52; refine (isName_any _ _ hn).mono ?_; rintro e w' ⟨rfl, rfl⟩; rw [hb])
  go_ret
  exact ⟨rfl, rfl⟩

set_option maxHeartbeats 400000 in
theorem admit_there {w : World} {S : Nat → Prop} {a size : Nat} {mo : Option Nat} {fs : List (List UInt8 × FileE)} (h : DiskM w S a size mo fs) (n : ByteArray) (hn : n.size ≤ maxLen) (hb : nameB n = true) (hs : (flook fs n.data.toList).isSome = true) :
    Calls Try.prog 44 #[.pointer (some ⟨a, 0, none⟩), .string n] w fun e w' => e = .returned (.int .i64 0) ∧ Below w.heap.size w w' := by
  have c1 := h.c1
  have hl := h.files.look_ok n hn
  obtain ⟨oa, cap, e, _⟩ := h.at_name n.data.toList
  rw [e, hs] at hl
  clear h e hs
  go_enter Try.func44, Try.ntmps44
  go_wp2_with (go_at_call 52; refine (isName_any _ _ hn).mono ?_; rintro e w' ⟨rfl, rfl⟩; rw [hb])
  go_ret
  exact ⟨rfl, (Below.refl _ _).alloc (Nat.le_refl _) _⟩

set_option maxHeartbeats 400000 in
theorem admit_new {w : World} {S : Nat → Prop} {a size : Nat} {mo : Option Nat} {fs : List (List UInt8 × FileE)} (h : DiskM w S a size mo fs) (n : ByteArray) (hn : n.size ≤ maxLen) (hb : nameB n = true) (hs : (flook fs n.data.toList).isSome = false) :
    Calls Try.prog 44 #[.pointer (some ⟨a, 0, none⟩), .string n] w fun e w' => e = .returned (.int .i64 (if fs.length < 256 then 0 else 3)) ∧ Below w.heap.size w w' := by
  have hal := h.below a h.self
  have c1 := h.c1
  have c2 : ∀ o, (w.alloc o).cell? ⟨a, 1, none⟩ = some (.map mo) := fun o => (World.cell?_of_block (a := ⟨a, 1, none⟩) (Below.heap_alloc w o a hal)).trans c1
  have hln : ∀ o ty, (Builtin.len_ #[54] ty #[.map mo]).run Try.prog (w.alloc o) = .ok (.int .i64 (fs.length : Int)) (w.alloc o) := fun o ty => (h.files.kept (fun b hb => Below.heap_alloc w o b (h.files.lt b hb))).len ty
  have hl := h.files.look_ok n hn
  obtain ⟨oa, cap, e, _⟩ := h.at_name n.data.toList
  rw [e, hs] at hl
  clear h e hs
  by_cases h256 : fs.length < 256
  · have h3 : ¬ ((256 : Int) ≤ (fs.length : Int)) := by omega
    rw [if_pos h256]
    go_enter Try.func44, Try.ntmps44
    go_wp2_with (go_at_call 52; refine (isName_any _ _ hn).mono ?_; rintro e w' ⟨rfl, rfl⟩; rw [hb])
    go_ret
    exact ⟨rfl, (Below.refl _ _).alloc (Nat.le_refl _) _⟩
  · have h3 : ((256 : Int) ≤ (fs.length : Int)) := by omega
    rw [if_neg h256]
    go_enter Try.func44, Try.ntmps44
    go_wp2_with (go_at_call 52; refine (isName_any _ _ hn).mono ?_; rintro e w' ⟨rfl, rfl⟩; rw [hb])
    go_ret
    exact ⟨rfl, (Below.refl _ _).alloc (Nat.le_refl _) _⟩
end Go.Proofs.Ytpdghpmfacaglaa
