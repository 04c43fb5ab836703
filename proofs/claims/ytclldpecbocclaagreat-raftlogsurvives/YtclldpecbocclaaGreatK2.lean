/- What Free and admit do. -/
import Derived.Test.YtclldpecbocclaaGreatK1
import Derived.Laws.AppendOwnNone
import Derived.Lib.AppendStr
import Derived.Deep.RegionLaw
import Derived.Deep.DeepFit
namespace Go.Proofs.YtclldpecbocclaaGreat
open Go.RowKit Go.Maps Go.Sort
open Go.WideMaps (keyOf_string_mk)
set_option maxRecDepth 100000
set_option linter.unusedSimpArgs false

theorem MapAt.len {w : World} {mo : Option Nat} {fs : List (List UInt8 × FileE)} (h : MapAt w mo fs) (ty : TypeId) : (Builtin.len_ #[57] ty #[.map mo]).run Tryz.prog w = .ok (.int .i64 (fs.length : Int)) w := by
  cases mo with
  | none => have e : fs = [] := h; subst e; exact Maps.len_nil Tryz.underlying57 ty
  | some b =>
    have := World.ownsMap.len h Tryz.underlying57 ty
    rw [dmap_size] at this
    exact this

def doneB (left : Lit → Bool) : List (List UInt8 × FileE) → Nat
  | [] => 0
  | p :: r => (if left (.string p.1) then 0 else p.2.bs.length) + doneB left r

theorem doneB_start (left : Lit → Bool) : ∀ fs : List (List UInt8 × FileE), (∀ p ∈ fs, left (.string p.1) = true) → doneB left fs = 0
  | [], _ => rfl
  | p :: r, h => by simp [doneB, h p (by simp), doneB_start left r (fun q hq => h q (by simp [hq]))]

theorem doneB_end (left : Lit → Bool) (hl : ∀ kl, left kl = false) : ∀ fs : List (List UInt8 × FileE), doneB left fs = total fs
  | [] => rfl
  | p :: r => by simp [doneB, total, hl, doneB_end left hl r]

theorem doneB_le (left : Lit → Bool) : ∀ fs : List (List UInt8 × FileE), doneB left fs ≤ total fs
  | [] => Nat.le_refl _
  | p :: r => by have := doneB_le left r; simp only [doneB, total]; split <;> omega

theorem doneB_other (left : Lit → Bool) (n : List UInt8) : ∀ fs : List (List UInt8 × FileE), (∀ p ∈ fs, p.1 ≠ n) → doneB (fun z => left z && !z.sameKey (.string n)) fs = doneB left fs
  | [], _ => rfl
  | p :: r, h => by
    have h1 : (p.1 == n) = false := by simpa using h p (by simp)
    simp [doneB, sk, h1, doneB_other left n r (fun q hq => h q (by simp [hq]))]

theorem doneB_step (left : Lit → Bool) (n : List UInt8) (f : FileE) : ∀ fs : List (List UInt8 × FileE), fs.Pairwise (fun p q => p.1 ≠ q.1) → (n, f) ∈ fs → left (.string n) = true →
    doneB (fun z => left z && !z.sameKey (.string n)) fs = doneB left fs + f.bs.length
  | [], _, h, _ => by cases h
  | p :: r, hp, h, hl => by
    have hp' := List.pairwise_cons.1 hp
    rcases List.mem_cons.1 h with rfl | h
    · have := doneB_other left n r (fun q hq => (hp'.1 q hq).symm)
      simp only [doneB, this, sk, hl]
      simp
      omega
    · have h1 : (p.1 == n) = false := by simpa using hp'.1 _ h
      have := doneB_step left n f r hp'.2 h hl
      simp only [doneB, this, sk, h1]
      simp
      omega

theorem DiskM.keys {w : World} {S : Nat → Prop} {a size : Nat} {mo : Option Nat} {fs : List (List UInt8 × FileE)} (h : DiskM w S a size mo fs) : fs.Pairwise (fun p q => p.1 ≠ q.1) :=
  h.rising.imp (fun {p q} hb e => by rw [e, WideAt.bytes_irrefl] at hb; cases hb)

/-- What comes out of the range is a file. -/
theorem DiskM.of_at {w : World} {S : Nat → Prop} {a size : Nat} {mo : Option Nat} {fs : List (List UInt8 × FileE)} (h : DiskM w S a size mo fs) (n : List UInt8) (c : Option Addr × Nat × Nat × Int)
    (hat : ∀ zd, (dmap fs).atKey (.string n) zd = .held (mkF c)) : ∃ f, (n, f) ∈ fs ∧ f.val = mkF c ∧ c.2.1 = f.bs.length := by
  have h1 := hat .nil
  unfold DataW.atKey dmap at h1
  simp only [find_dmap] at h1
  cases hf : fs.find? (fun p => p.1 == n) with
  | none => rw [hf] at h1; cases h1
  | some p =>
    rw [hf] at h1
    simp only [Option.map_some, DataW.held.injEq] at h1
    have hm := List.mem_of_find?_eq_some hf
    have hk := List.find?_some hf
    simp at hk
    obtain ⟨oa, cap, e⟩ := (h.owns p hm).1.shape
    refine ⟨p.2, by rw [← hk]; exact hm, h1, ?_⟩
    unfold FileE.val mkF at h1
    rw [e] at h1
    simp at h1
    exact h1.1.2.1.symm

set_option maxHeartbeats 1000000 in
theorem free_some {w : World} {S : Nat → Prop} {a size : Nat} {b : Nat} {fs : List (List UInt8 × FileE)} (h : DiskM w S a size (some b) fs) :
    Calls Tryz.prog 46 #[.pointer (some ⟨a, 0, none⟩)] w fun e w' => e = .returned (.int .i64 ((size - total fs : Nat) : Int)) ∧ Below w.heap.size w w' := by
  have c0 := h.c0
  have c1 := h.c1
  have hroom := h.room
  have hsmall := h.small
  have hkeys := h.keys
  have hof := h.of_at
  have hown : w.ownsMap Tryz.prog 9 Rh b fs.length (dmap fs) := h.files
  have hbl := hown.lt
  have H : Hid (DiskM w S a size (some b) fs) := h
  clear h
  go_enter Tryz.func46, Tryz.ntmps46
  go_wp2_with (first
    | (at_range; refine wpList_range_own _ rfl _ 57 rfl 9 76 law9 Tryz.underlying57 _ b fs.length _ rfl hown ?_; intro w0 hrg0 hg0 hs0)
    | go_in)
  go_frame
  go_loopw [3] (fun fr wr => ∃ (left : Lit → Bool) (cnt : Nat), wr.ranges Tryz.prog 9 Rh b w.heap.size fs.length (dmap fs) left cnt ∧ fr = .int .i64 ((size - doneB left fs : Nat) : Int) ∧ Below w.heap.size w wr ∧ w.heap.size < wr.heap.size)
    (fun _ wr => wr.rangeLeft b w.heap.size)
  case atStart =>
    refine ⟨_, _, hrg0, ?_, (Below.refl _ _).grown hg0 (Nat.le_refl _) (fun j hj => by cases hj), by omega⟩
    rw [doneB_start _ fs (fun p hp => by rw [dmap_has]; unfold flook; simp only [Option.isSome_map]; exact List.find?_isSome.2 ⟨p, hp, by simp⟩)]
    rfl
  case round =>
    obtain ⟨left, cnt, hrg, rfl, hnx, hsz⟩ := hrel
    have hdl := doneB_le left fs
    go_wp2_with (first
      | (at_next; refine wpList_next_ranges _ rfl _ rfl 9 law9 Rh encStr (fun c : Option Addr × Nat × Nat × Int => Value.agg #[.slice c.1 c.2.1 c.2.2.1, .int .i64 c.2.2.2]) (fun key kl hkey => by obtain ⟨x, rfl, _⟩ := Maps.keyOf_str Tryz.underlying9 hkey; exact ⟨_, rfl⟩) (fun v y hv => (Rh_inv hv).1) b w.heap.size fs.length (dmap fs) left cnt rfl hrg ?_ ?_)
      | go_in)
    · intro hc0 hl0
      go_wp2
      go_ret
      rw [doneB_end left hl0]
      exact ⟨rfl, hnx⟩
    · intro x oa l cap sf kl y1 y2 w1 cnt1 hkey hlx hRy hat hrg1 hlt hg1 hs1 hen
      obtain ⟨x', hx', hkl, _⟩ := Maps.keyOf_str Tryz.underlying9 hkey
      cases encStr_inj hx'
      subst hkl
      have hy := (Rh_inv hRy).2
      simp only [Prod.mk.injEq] at hy
      obtain ⟨f, hm, hv, hl⟩ := hof x (oa, l, cap, sf) (fun zd => (hat zd).trans hy.1)
      have hstep := doneB_step left x f fs hkeys hm hlx
      have hle2 := doneB_le (fun z => left z && !z.sameKey (.string x)) fs
      simp only at hl
      have hlb : l ≤ size - doneB left fs := by omega
      have HS : Hid (doneB (fun z => left z && !z.sameKey (.string x)) fs = doneB left fs + l) := by rw [hl]; exact hstep
      clear hstep hat hv hy hRy hkey hx' hof hl hle2
      go_wp2
      go_roundw
      case rel =>
        refine ⟨_, cnt1, hrg1.alloc _, ?_, (hnx.grown hg1 hnx.size (fun j hj => by cases hj; exact Nat.le_refl _)).alloc (by omega) _, by simp; omega⟩
        rw [HS.out]
        go_num
      case measure => rw [(hrg1.alloc _).left_eq, hrg.left_eq]; exact hlt

set_option maxHeartbeats 400000 in
theorem free_none {w : World} {S : Nat → Prop} {a size : Nat} {fs : List (List UInt8 × FileE)} (h : DiskM w S a size none fs) :
    Calls Tryz.prog 46 #[.pointer (some ⟨a, 0, none⟩)] w fun e w' => e = .returned (.int .i64 ((size - total fs : Nat) : Int)) ∧ Below w.heap.size w w' := by
  have c0 := h.c0
  have c1 := h.c1
  have hfs : fs = [] := h.files
  subst hfs
  clear h
  have hrg := run_range_nilMap (P := Tryz.prog) w 57 9 76 Tryz.underlying57
  have hnx : ∀ ty, (Instr.next (.pointer (some ⟨w.heap.size, 0, none⟩)) false ty).run Tryz.prog (w.alloc (.mapIter none 0 #[] 0)) = _ := fun ty => run_next_nilMap _ ty 0 0 #[]
  go_enter Tryz.func46, Tryz.ntmps46
  go_wp2
  refine wp_loop_rounds 1 ?_
  rw [rounds_succ]
  go_wp2
  go_ret
  exact ⟨rfl, (Below.refl _ _).alloc (Nat.le_refl _) _⟩

theorem free_any {w : World} {S : Nat → Prop} {a size : Nat} {mo : Option Nat} {fs : List (List UInt8 × FileE)} (h : DiskM w S a size mo fs) :
    Calls Tryz.prog 46 #[.pointer (some ⟨a, 0, none⟩)] w fun e w' => e = .returned (.int .i64 ((size - total fs : Nat) : Int)) ∧ Below w.heap.size w w' := by
  cases mo with
  | none => exact free_none h
  | some b => exact free_some h

set_option maxHeartbeats 400000 in
theorem admit_bad {w : World} {a : Nat} (n : ByteArray) (hn : n.size ≤ maxLen) (hb : nameB n = false) :
    Calls Tryz.prog 50 #[.pointer (some ⟨a, 0, none⟩), .string n] w fun e w' => e = .returned (.int .i64 1) ∧ w' = w := by
  go_enter Tryz.func50, Tryz.ntmps50
  go_wp2_with (go_at_call 68; refine (isName_any _ _ hn).mono ?_; rintro e w' ⟨rfl, rfl⟩; rw [hb])
  go_ret
  exact ⟨rfl, rfl⟩

set_option maxHeartbeats 400000 in
theorem admit_there {w : World} {S : Nat → Prop} {a size : Nat} {mo : Option Nat} {fs : List (List UInt8 × FileE)} (h : DiskM w S a size mo fs) (n : ByteArray) (hn : n.size ≤ maxLen) (hb : nameB n = true) (hs : (flook fs n.data.toList).isSome = true) :
    Calls Tryz.prog 50 #[.pointer (some ⟨a, 0, none⟩), .string n] w fun e w' => e = .returned (.int .i64 0) ∧ Below w.heap.size w w' := by
  have c1 := h.c1
  have hl := h.files.look_ok n hn
  obtain ⟨oa, cap, e, _⟩ := h.at_name n.data.toList
  rw [e, hs] at hl
  clear h e hs
  go_enter Tryz.func50, Tryz.ntmps50
  go_wp2_with (go_at_call 68; refine (isName_any _ _ hn).mono ?_; rintro e w' ⟨rfl, rfl⟩; rw [hb])
  go_ret
  exact ⟨rfl, (Below.refl _ _).alloc (Nat.le_refl _) _⟩

set_option maxHeartbeats 400000 in
theorem admit_new {w : World} {S : Nat → Prop} {a size : Nat} {mo : Option Nat} {fs : List (List UInt8 × FileE)} (h : DiskM w S a size mo fs) (n : ByteArray) (hn : n.size ≤ maxLen) (hb : nameB n = true) (hs : (flook fs n.data.toList).isSome = false) :
    Calls Tryz.prog 50 #[.pointer (some ⟨a, 0, none⟩), .string n] w fun e w' => e = .returned (.int .i64 (if fs.length < 256 then 0 else 3)) ∧ Below w.heap.size w w' := by
  have hal := h.below a h.self
  have c1 := h.c1
  have c2 : ∀ o, (w.alloc o).cell? ⟨a, 1, none⟩ = some (.map mo) := fun o => (World.cell?_of_block (a := ⟨a, 1, none⟩) (Below.heap_alloc w o a hal)).trans c1
  have hln : ∀ o ty, (Builtin.len_ #[57] ty #[.map mo]).run Tryz.prog (w.alloc o) = .ok (.int .i64 (fs.length : Int)) (w.alloc o) := fun o ty => (h.files.kept (fun b hb => Below.heap_alloc w o b (h.files.lt b hb))).len ty
  have hl := h.files.look_ok n hn
  obtain ⟨oa, cap, e, _⟩ := h.at_name n.data.toList
  rw [e, hs] at hl
  clear h e hs
  by_cases h256 : fs.length < 256
  · have h3 : ¬ ((256 : Int) ≤ (fs.length : Int)) := by omega
    rw [if_pos h256]
    go_enter Tryz.func50, Tryz.ntmps50
    go_wp2_with (go_at_call 68; refine (isName_any _ _ hn).mono ?_; rintro e w' ⟨rfl, rfl⟩; rw [hb])
    go_ret
    exact ⟨rfl, (Below.refl _ _).alloc (Nat.le_refl _) _⟩
  · have h3 : ((256 : Int) ≤ (fs.length : Int)) := by omega
    rw [if_neg h256]
    go_enter Tryz.func50, Tryz.ntmps50
    go_wp2_with (go_at_call 68; refine (isName_any _ _ hn).mono ?_; rintro e w' ⟨rfl, rfl⟩; rw [hb])
    go_ret
    exact ⟨rfl, (Below.refl _ _).alloc (Nat.le_refl _) _⟩
end Go.Proofs.YtclldpecbocclaaGreat

/- What copied does: the same bytes in new memory. -/
namespace Go.Proofs.YtclldpecbocclaaGreat
open Go.RowKit Go.Maps
set_option maxRecDepth 100000
set_option linter.unusedSimpArgs false

theorem dinfo5 : (Tryz.prog.info? 5).map (fun i => (i.zero, i.size, i.bytes)) = some (some (.int .u8 0), 1, 1) := by kernel_rfl

/-- A slice whose cells hold such bytes, wherever. -/
def Src (w : World) (oa : Option Addr) (bs : List UInt8) : Prop :=
  (oa = none ∧ bs = []) ∨ ∃ g, oa = some ⟨g, 0, none⟩ ∧ ∀ i (hi : i < bs.length), w.cell? ⟨g, i, none⟩ = some (.int .u8 (bs[i].toNat : Int))

theorem u8s_oneCell (bs : List UInt8) : ∀ u ∈ u8s bs, u.oneCell' = true := by
  intro u hu
  simp only [u8s, List.mem_map] at hu
  obtain ⟨b, _, rfl⟩ := hu
  rfl

theorem ownsRow_bytes {w : World} {base : Nat} {v : Value} {bs : List UInt8} {S : Nat → Prop} (h : w.ownsRow base 5 1 v bs.length (u8s bs)) (hS : ∀ k, base ≤ k → k < w.heap.size → S k) : BytesAt w S v bs := by
  obtain ⟨_, ⟨rfl, h0⟩ | ⟨g, cap, cur, rfl, hb, hg, hn, hc, hs, ht⟩⟩ := h
  · exact .inl ⟨rfl, List.eq_nil_of_length_eq_zero h0⟩
  · exact .inr ⟨g, cap, cur, (0, 0), rfl, hS g hb (Array.getElem?_eq_some_iff.1 hg).1, hg, hn, hc, by simpa using hs, .inl rfl, by simpa using ht⟩

set_option maxHeartbeats 400000 in
theorem copied_any (w : World) (oa : Option Addr) (cap : Nat) (bs : List UInt8) (hsrc : Src w oa bs) (hlen : bs.length ≤ 16777216) (hcap : oa = none → cap = 0) :
    Calls Tryz.prog 38 #[.slice oa bs.length cap] w fun e w' => ∃ v, e = .returned v ∧ BytesAt w' (fun k => w.heap.size ≤ k ∧ k < w'.heap.size) v bs ∧ Below w.heap.size w w' := by
  obtain ⟨i0, hi, hz0, hz1, hz2⟩ := info_parts dinfo5
  rcases hsrc with ⟨rfl, rfl⟩ | ⟨g, rfl, hc⟩
  · have := hcap rfl
    subst this
    go_enter Tryz.func38, Tryz.ntmps38
    go_wp2_with (at_builtin; refine wpList_append_own_none rfl _ _ 74 rfl w.heap.size 5 i0 1 Tryz.underlying74 hi _ 0 [] rfl (World.ownsRow_nil _ _ _ _) rfl ?_)
    go_ret
    exact ⟨_, rfl, .inl ⟨rfl, rfl⟩, Below.refl _ _⟩
  · have hnews : ∀ j u, (u8s bs)[j]? = some u → w.cell? ((⟨g, 0, none⟩ : Addr).add j) = some u := by
      intro j u hu
      have hadd : (⟨g, 0, none⟩ : Addr).add j = ⟨g, j, none⟩ := by unfold Addr.add; split <;> simp_all
      rcases Nat.lt_or_ge j bs.length with hj | hj
      · rw [hadd, hc j hj, ← hu]; simp [u8s, hj]
      · rw [List.getElem?_eq_none (by rw [u8s_length]; exact hj)] at hu; cases hu
    go_enter Tryz.func38, Tryz.ntmps38
    go_wp2_with (at_builtin; refine wpList_append_own _ rfl _ _ 74 rfl w.heap.size 5 i0 (.int .u8 0) 1 1 Tryz.underlying74 hi hz0 hz1 hz2 rfl (by decide) _ 0 [] rfl (World.ownsRow_nil _ _ _ _) ⟨g, 0, none⟩ bs.length cap (u8s bs) rfl (by rw [u8s_length, Nat.mul_one]) hnews (u8s_oneCell bs) (by unfold maxLen; omega) (by omega) (Nat.le_refl _) ?_; intro v w1 hown hgrow hnil)
    go_ret
    rw [Nat.zero_add, List.nil_append] at hown
    exact ⟨_, rfl, ownsRow_bytes hown (fun k h1 h2 => ⟨h1, h2⟩), (Below.refl _ _).grown hgrow (Nat.le_refl _) (fun k hk => by cases hk)⟩
end Go.Proofs.YtclldpecbocclaaGreat

/- What stays of a disk while other memory is turned; what kept, Sync and Replace do. -/
namespace Go.Proofs.YtclldpecbocclaaGreat
open Go.RowKit Go.Maps
open Go.WideMaps (keyOf_string_mk)
set_option maxRecDepth 100000
set_option linter.unusedSimpArgs false
set_option linter.unusedVariables false

theorem DiskM.kept {w w1 : World} {S : Nat → Prop} {a size : Nat} {mo : Option Nat} {fs : List (List UInt8 × FileE)} (h : DiskM w S a size mo fs) (hb : ∀ k, S k → w1.heap[k]? = w.heap[k]?) (hs : w.heap.size ≤ w1.heap.size) : DiskM w1 S a size mo fs :=
  ⟨fun k hk => Nat.lt_of_lt_of_le (h.below k hk) hs, h.self, (hb a h.self).trans h.cells, h.files.kept (fun b e => hb b (h.mapS b e)), h.mapS, fun p hp => ⟨(h.owns p hp).1.kept (fun _ hk => hk) (fun k hk => hb k ((h.owns p hp).1.lt k hk).1), (h.owns p hp).2⟩, h.apart, h.room, h.small, h.few⟩

theorem DiskM.under {w w1 : World} {S : Nat → Prop} {a size : Nat} {mo : Option Nat} {fs : List (List UInt8 × FileE)} (h : DiskM w S a size mo fs) (hb : Below w.heap.size w w1) : DiskM w1 S a size mo fs :=
  h.kept (fun k hk => hb.block k (h.below k hk)) hb.size

theorem DiskM.beside {w w1 : World} {S T : Nat → Prop} {a size : Nat} {mo : Option Nat} {fs : List (List UInt8 × FileE)} (h : DiskM w S a size mo fs) (hk : Keeps T w w1) (hd : ∀ k, S k → ¬ T k) : DiskM w1 S a size mo fs :=
  h.kept (fun k hS => hk.block k (h.below k hS) (hd k hS)) hk.size

theorem DiskM.more {w : World} {S T : Nat → Prop} {a size : Nat} {mo : Option Nat} {fs : List (List UInt8 × FileE)} (h : DiskM w S a size mo fs) (hS : ∀ k, S k → T k) (hT : ∀ k, T k → k < w.heap.size) : DiskM w T a size mo fs :=
  ⟨hT, hS a h.self, h.cells, h.files, fun b e => hS b (h.mapS b e), fun p hp => ⟨(h.owns p hp).1.kept hS (fun _ _ => rfl), (h.owns p hp).2⟩, h.apart, h.room, h.small, h.few⟩

theorem Keeps.refl (S : Nat → Prop) (w : World) : Keeps S w w := ⟨rfl, rfl, rfl, Nat.le_refl _, fun _ _ _ => rfl⟩
theorem Keeps.of_below {S : Nat → Prop} {w w1 : World} (h : Below w.heap.size w w1) : Keeps S w w1 := ⟨h.os, h.tape, h.output, h.size, fun k hk _ => h.block k hk⟩
theorem Keeps.trans {S T : Nat → Prop} {w w1 w2 : World} (h : Keeps S w w1) (k : Keeps T w1 w2) (hT : ∀ x, T x → S x ∨ w.heap.size ≤ x) : Keeps S w w2 :=
  ⟨k.os.trans h.os, k.tape.trans h.tape, k.output.trans h.output, Nat.le_trans h.size k.size, fun x hx hS => (k.block x (Nat.lt_of_lt_of_le hx h.size) (fun ht => by rcases hT x ht with h1 | h1; exact hS h1; omega)).trans (h.block x hx hS)⟩
theorem Keeps.below {S : Nat → Prop} {w w1 : World} {B : Nat} (h : Keeps S w w1) (hB : B ≤ w.heap.size) (hS : ∀ k, S k → B ≤ k) : Below B w w1 :=
  ⟨h.os, h.tape, h.output, h.size, fun k hk => h.block k (by omega) (fun hs => by have := hS k hs; omega)⟩

/-- What a call leaves of a disk: the disk with other files, its blocks old or new. -/
def After (S : Nat → Prop) (w w' : World) (a size : Nat) (fs : List (List UInt8 × FileE)) : Prop :=
  ∃ S' mo', DiskM w' S' a size mo' fs ∧ (∀ k, S' k → S k ∨ w.heap.size ≤ k) ∧ (∀ k, S k → S' k) ∧ Keeps S w w'

/-- The numbers of a crash. -/
def dIntsAt (w : World) (oa : Option Addr) (ks : List Int) : Prop :=
  ks = [] ∨ ∃ b off, oa = some ⟨b, off, none⟩ ∧ ∀ j (hj : j < ks.length), w.cell? ⟨b, off + j, none⟩ = some (.int .i64 ks[j]) ∧ -9223372036854775808 ≤ ks[j] ∧ ks[j] ≤ 9223372036854775807

theorem dIntsAt.kept {w w1 : World} {oa : Option Addr} {ks : List Int} (h : dIntsAt w oa ks) (hb : ∀ b off, oa = some ⟨b, off, none⟩ → w1.heap[b]? = w.heap[b]?) : dIntsAt w1 oa ks := by
  rcases h with h | ⟨b, off, e, h⟩
  · exact .inl h
  · exact .inr ⟨b, off, e, fun j hj => ⟨(World.cell?_of_block (a := ⟨b, off + j, none⟩) (hb b off e)).trans (h j hj).1, (h j hj).2⟩⟩

def keptN (ks : List Int) (i loose : Nat) : Nat :=
  match ks[i]? with
  | none => 0
  | some k => ((if k < 0 then -(k + 1) else k) % ((loose : Int) + 1)).toNat

theorem keptN_le (ks : List Int) (i loose : Nat) : keptN ks i loose ≤ loose := by
  unfold keptN
  split
  · omega
  · rename_i k _
    have h1 := Int.emod_lt_of_pos (if k < 0 then -(k + 1) else k) (show 0 < (loose : Int) + 1 by omega)
    have h2 := Int.emod_nonneg (if k < 0 then -(k + 1) else k) (show (loose : Int) + 1 ≠ 0 by omega)
    omega

theorem dnot_neg (k : Int) (h1 : -9223372036854775808 ≤ k) (h2 : k < 0) : bits .xor .i64 (-1) k = -(k + 1) := by
  show IntKind.i64.wrap ((BitVec.ofInt 64 (-1) ^^^ BitVec.ofInt 64 k).toNat : Int) = _
  have e1 : BitVec.ofInt 64 (-1) = BitVec.allOnes 64 := by decide
  rw [e1, BitVec.allOnes_xor, BitVec.toNat_not, BitVec.toNat_ofInt]
  simp [IntKind.wrap, IntKind.bits, IntKind.signed]
  omega

set_option maxHeartbeats 400000 in
theorem kept_any (w : World) (oa : Option Addr) (ks : List Int) (cap i loose : Nat) (hk : dIntsAt w oa ks) (hlen : ks.length ≤ maxLen) (hi : i ≤ 256) (hl : loose ≤ 16777216) :
    Calls Tryz.prog 36 #[.slice oa ks.length cap, .int .i64 (i : Int), .int .i64 (loose : Int)] w fun e w' => e = .returned (.int .i64 (keptN ks i loose : Int)) ∧ w' = w := by
  unfold maxLen at hlen
  by_cases hik : i < ks.length
  · rcases hk with rfl | ⟨b, off, rfl, hc⟩
    · simp at hik
    · obtain ⟨hc1, h1, h2⟩ := hc i hik
      clear hc
      have hn : ¬ ((ks.length : Int) ≤ (i : Int)) := by omega
      have hik' : (i : Int) < (ks.length : Int) := by omega
      have e0 : ks[i]? = some ks[i] := by simp [hik]
      generalize ks[i] = k at *
      have hfin : Hid ((keptN ks i loose : Int) = (if k < 0 then -(k + 1) else k) % ((loose : Int) + 1)) := by
        show (keptN ks i loose : Int) = _
        unfold keptN
        rw [e0]
        exact Int.toNat_of_nonneg (Int.emod_nonneg _ (by omega))
      clear e0
      by_cases hneg : k < 0
      · go_enter Tryz.func36, Tryz.ntmps36
        go_wp2
        go_ret
        refine ⟨ret_int ?_, rfl⟩
        rw [hfin.out, if_pos hneg]
        rw [dnot_neg k h1 hneg]
        exact Int.tmod_eq_emod_of_nonneg (by omega)
      · go_enter Tryz.func36, Tryz.ntmps36
        go_wp2
        go_ret
        refine ⟨ret_int ?_, rfl⟩
        rw [hfin.out, if_neg (by omega)]
  · have hn : ((ks.length : Int) ≤ (i : Int)) := by omega
    have hfin : Hid (keptN ks i loose = 0) := by
      show _ = 0
      unfold keptN
      rw [List.getElem?_eq_none (by omega)]
    go_enter Tryz.func36, Tryz.ntmps36
    go_wp2
    go_ret
    exact ⟨ret_int (by rw [hfin.out]; rfl), rfl⟩

theorem After.trans_below {S : Nat → Prop} {w w1 w2 : World} {a size : Nat} {fs : List (List UInt8 × FileE)} (hb : Below w.heap.size w w1) (h : After S w1 w2 a size fs) : After S w w2 a size fs := by
  obtain ⟨S', mo', hd, h1, h2, h3⟩ := h
  refine ⟨S', mo', hd, fun k hk => ?_, h2, (Keeps.of_below hb).trans h3 (fun x hx => .inl hx)⟩
  rcases h1 k hk with h | h
  · exact .inl h
  · exact .inr (Nat.le_trans hb.size h)

theorem After.then_below {S : Nat → Prop} {w w1 w2 : World} {a size : Nat} {fs : List (List UInt8 × FileE)} (h : After S w w1 a size fs) (hb : Below w1.heap.size w1 w2) : After S w w2 a size fs := by
  obtain ⟨S', mo', hd, h1, h2, h3⟩ := h
  exact ⟨S', mo', hd.under hb, h1, h2, h3.trans (T := fun _ => False) (Keeps.of_below hb) (fun x hx => hx.elim)⟩

theorem After.same {S : Nat → Prop} {w w1 : World} {a size : Nat} {mo : Option Nat} {fs : List (List UInt8 × FileE)} (h : DiskM w S a size mo fs) (hb : Below w.heap.size w w1) : After S w w1 a size fs :=
  ⟨S, mo, h.under hb, fun _ hk => .inl hk, fun _ hk => hk, Keeps.of_below hb⟩

theorem After.then {S S1 : Nat → Prop} {w w1 w2 : World} {a size : Nat} {fs2 : List (List UInt8 × FileE)} (hk : Keeps S w w1) (h1 : ∀ k, S1 k → S k ∨ w.heap.size ≤ k) (h2 : ∀ k, S k → S1 k) (h : After S1 w1 w2 a size fs2) : After S w w2 a size fs2 := by
  obtain ⟨S', mo', hd, g1, g2, g3⟩ := h
  refine ⟨S', mo', hd, fun k hk' => ?_, fun k hS => g2 k (h2 k hS), hk.trans g3 h1⟩
  rcases g1 k hk' with h | h
  · exact h1 k h
  · exact .inr (Nat.le_trans hk.size h)

theorem flook_isSome_iff {fs : List (List UInt8 × FileE)} {n : List UInt8} : (flook fs n).isSome = true ↔ ∃ p ∈ fs, p.1 = n := by
  unfold flook
  rw [Option.isSome_map, List.find?_isSome]
  simp

theorem len_fdel_there {fs : List (List UInt8 × FileE)} {n : List UInt8} (h : (flook fs n).isSome = true) : (fdel fs n).length + 1 ≤ fs.length := by
  obtain ⟨p, hp, he⟩ := flook_isSome_iff.1 h
  unfold fdel
  have := List.length_filter_lt_length_iff_exists (p := fun p : List UInt8 × FileE => !(p.1 == n)) (l := fs)
  have h2 := this.2 ⟨p, hp, by simp [he]⟩
  omega

theorem len_fdel_le (fs : List (List UInt8 × FileE)) (n : List UInt8) : (fdel fs n).length ≤ fs.length := List.length_filter_le _ _

theorem len_fput (fs : List (List UInt8 × FileE)) (n : List UInt8) (f : FileE) : (fput fs n f).length = (fdel fs n).length + 1 := len_fins _ _
theorem total_fput (fs : List (List UInt8 × FileE)) (n : List UInt8) (f : FileE) : total (fput fs n f) = f.bs.length + total (fdel fs n) := total_fins _ _

theorem pair_all {α : Type} (T : α → α → Prop) (hs : ∀ p q, T p q → T q p) : ∀ l : List α, l.Pairwise T → ∀ x ∈ l, ∀ y ∈ l, x ≠ y → T x y
  | [], _, x, hx, _, _, _ => by cases hx
  | z :: r, h, x, hx, y, hy, hne => by
    have h' := List.pairwise_cons.1 h
    rcases List.mem_cons.1 hx with rfl | hx
    · rcases List.mem_cons.1 hy with rfl | hy
      · exact absurd rfl hne
      · exact h'.1 y hy
    · rcases List.mem_cons.1 hy with e | hy
      · rw [e]; exact hs _ _ (h'.1 x hx)
      · exact pair_all T hs r h'.2 x hx y hy hne

/-- The files but for one name lie in other blocks than that name's. -/
theorem apart_at {fs : List (List UInt8 × FileE)} (hA : fs.Pairwise (fun p q => ∀ k, p.2.sv.ownBlock = some k → q.2.sv.ownBlock ≠ some k)) {n : List UInt8} {f : FileE} (hf : flook fs n = some f) :
    ∀ p ∈ fs, p.1 ≠ n → ∀ k, f.sv.ownBlock = some k → p.2.sv.ownBlock ≠ some k := by
  have hm := flook_mem hf
  intro p hp hne k hk hq
  have hsym := fun x hx y hy hxy => pair_all _ (fun u v (h : ∀ k, u.2.sv.ownBlock = some k → v.2.sv.ownBlock ≠ some k) j hj hv => h j hv hj) fs hA x hx y hy hxy
  exact hsym _ hm p hp (fun e => hne (by rw [← e])) k hk hq

end Go.Proofs.YtclldpecbocclaaGreat

/- What Replace and Append do. -/
namespace Go.Proofs.YtclldpecbocclaaGreat
open Go.RowKit Go.Maps Go.Sort
open Go.WideMaps (keyOf_string_mk)
set_option maxRecDepth 100000
set_option linter.unusedSimpArgs false
set_option linter.unusedVariables false

theorem admit_ok {w : World} {S : Nat → Prop} {a size : Nat} {mo : Option Nat} {fs : List (List UInt8 × FileE)} (h : DiskM w S a size mo fs) (n : ByteArray) (hn : n.size ≤ maxLen) (hb : nameB n = true) (hadm : (flook fs n.data.toList).isSome = true ∨ fs.length < 256) :
    Calls Tryz.prog 50 #[.pointer (some ⟨a, 0, none⟩), .string n] w fun e w' => e = .returned (.int .i64 0) ∧ Below w.heap.size w w' := by
  cases hs : (flook fs n.data.toList).isSome with
  | true => exact admit_there h n hn hb hs
  | false =>
    rcases hadm with h1 | h1
    · rw [hs] at h1; cases h1
    · have := admit_new h n hn hb hs
      rw [if_pos h1] at this
      exact this

theorem fdel_none {fs : List (List UInt8 × FileE)} {n : List UInt8} (h : (flook fs n).isSome = false) : fdel fs n = fs := by
  refine fdel_of_ne n fs (fun p hp e => ?_)
  rw [flook_isSome_iff.2 ⟨p, hp, e⟩] at h
  cases h

theorem few_fput {fs : List (List UInt8 × FileE)} {n : List UInt8} (f : FileE) (hadm : (flook fs n).isSome = true ∨ fs.length < 256) (hfew : fs.length ≤ 256) : (fput fs n f).length ≤ 256 := by
  rw [len_fput]
  rcases hadm with h | h
  · have := len_fdel_there h; omega
  · have := len_fdel_le fs n; omega

theorem lenAt_eq (fs : List (List UInt8 × FileE)) (n : List UInt8) : lenAt fs n = (bsAt fs n).length := by
  unfold lenAt bsAt; cases flook fs n <;> rfl

/-- The bytes of a converted string. -/
theorem bytesAt_conv (W : World) (b : ByteArray) (hb : b.size ≤ 16777216) (S : Nat → Prop) (hS : S W.heap.size) :
    BytesAt (Lib.bytesWorld W 5 b) S (.slice (some ⟨W.heap.size, 0, none⟩) b.size (grownCap W b.size 0 5)) b.data.toList := by
  have hge := grownCap_ge W b.size 0 5
  have hcm := grownCap_le_maxLen W b.size 0 5 (by unfold maxLen; omega)
  have hsz : (Lib.bytesCells W 5 b).size = grownCap W b.size 0 5 := by
    have e : b.data.size = b.size := rfl
    simp [Lib.bytesCells, e]; omega
  refine .inr ⟨W.heap.size, grownCap W b.size 0 5, Lib.bytesCells W 5 b, (grownCap W b.size 0 5, grownCap W b.size 0 5 + 1), rfl, hS, ?_, hge, hcm, hsz, .inr rfl, ?_⟩
  · rw [Lib.bytesWorld_at_new, hsz]
  · have e : b.data.toList.length = (b.data.map fun c => Value.int .u8 (c.toNat : Int)).toList.length := by simp
    simp only [Lib.bytesCells, Array.toList_append]
    rw [e, List.take_left]
    simp [u8s]

theorem conv_below (W : World) (b : ByteArray) : Below W.heap.size W (Lib.bytesWorld W 5 b) := by
  refine ⟨rfl, rfl, rfl, by rw [Lib.bytesWorld_size]; omega, fun k hk => Lib.bytesWorld_at_old W 5 b k hk⟩

theorem storeCells_mark (g o : Nat) (mk : Nat × Nat) : ∀ (vs : List Value) (i : Nat) (cur : Array Value) (w : World), w.heap[g]? = some (.cells cur 5 mk) → o + i + vs.length ≤ cur.size → (mk = (0, 0) ∨ cur.size ≤ mk.1) → (∀ v ∈ vs, v.oneCell' = true) →
    (storeCells ⟨g, o, none⟩ vs i).run Tryz.prog w = .ok () (w.setRow g (cur.toList.take (o + i) ++ vs ++ cur.toList.drop (o + i + vs.length)).toArray)
  | [], i, cur, w, hg, _, _, _ => by
    simp only [storeCells, List.append_nil, List.length_nil, Nat.add_zero, List.take_append_drop, Array.toArray_toList]
    rw [setRow_self w g cur 5 mk hg]
    rfl
  | v :: rest, i, cur, w, hg, hl, hm, h1 => by
    simp only [List.length_cons] at hl
    have hi : o + i < cur.size := by omega
    have hadd : (⟨g, o, none⟩ : Addr).add i = ⟨g, o + i, none⟩ := by unfold Addr.add; split <;> simp_all
    have hcell : w.cell? ⟨g, o + i, none⟩ = some cur[o + i] := by simp [World.cell?, hg, hi]
    have hfro : w.frozen? ⟨g, o + i, none⟩ = false := by
      obtain ⟨lo, hi'⟩ := mk
      simp only [World.frozen?, hg]
      rcases hm with hm | hm
      · cases hm; simp
      · simp only at hm
        have : ¬ lo ≤ o + i := by omega
        simp [this]
    have hst : (store ((⟨g, o, none⟩ : Addr).add i) v).run Tryz.prog w = .ok () (w.setRow g (cur.setIfInBounds (o + i) v)) := by
      rw [hadd, run_store Tryz.prog w _ v _ (h1 v (by simp)), hcell]
      simp [hfro, setCell_eq_setRow w g (o + i) cur 5 mk v hg]
    have ih := storeCells_mark g o mk rest (i + 1) (cur.setIfInBounds (o + i) v) (w.setRow g (cur.setIfInBounds (o + i) v)) (setRow_heap w g cur _ 5 _ hg) (by simp; omega) (by simpa using hm) (fun x hx => h1 x (by simp [hx]))
    simp only [storeCells, Sem.run_bind, hst, Result.andThen_ok, ih, setRow_setRow]
    congr 3
    have e := list_seg_step cur.toList (o + i) v rest (by simp; omega)
    simpa [Array.toList_setIfInBounds, Nat.add_assoc] using e

theorem append_room (w : World) (ty : TypeId) (g sLen sCap : Nat) (cur : Array Value) (mk : Nat × Nat) (hg : w.heap[g]? = some (.cells cur 5 mk)) (hm : mk = (0, 0) ∨ cur.size ≤ mk.1) (s : ByteArray) (hroom : sLen + s.size ≤ sCap) (hfit : sLen + s.size ≤ cur.size) :
    (Builtin.append_ #[74, 9] ty #[.slice (some ⟨g, 0, none⟩) sLen sCap, .string s]).run Tryz.prog w =
      .ok (.slice (some ⟨g, 0, none⟩) (sLen + s.size) sCap) (w.setRow g (cur.toList.take sLen ++ Lib.strCells s ++ cur.toList.drop (sLen + s.size)).toArray) := by
  obtain ⟨i, hi, hz0, hz1, hz2⟩ := info_parts dinfo5
  have hf := Lib.run_firstCells_string (P := Tryz.prog) w 1 s
  have hst := storeCells_mark g sLen mk (Lib.strCells s) 0 cur w hg (by simpa [Lib.strCells_length] using hfit) hm (Lib.strCells_oneCell s)
  simp only [Nat.add_zero, Lib.strCells_length] at hst
  simp [Builtin.append_, run_underlying Tryz.underlying74, run_underlying Tryz.underlying9, sizeOf, typeInfo, hi, hz1, Builtin.lenOf, hroom, hf, Addr.add_lit, hst]

theorem strCells_u8s (s : ByteArray) : Lib.strCells s = u8s s.data.toList := rfl

/-- A string's bytes behind a file's bytes. -/
theorem BytesAt.append {w : World} {S : Nat → Prop} {sv : Value} {bs : List UInt8} (h : BytesAt w S sv bs) (hS : ∀ k, S k → k < w.heap.size) (s : ByteArray) (hlen : bs.length + s.size ≤ 16777216) (ty : TypeId) :
    ∃ v' w', (Builtin.append_ #[74, 9] ty #[sv, .string s]).run Tryz.prog w = .ok v' w' ∧ BytesAt w' (fun k => S k ∨ (w.heap.size ≤ k ∧ k < w'.heap.size)) v' (bs ++ s.data.toList) ∧ BytesAt w' S sv bs ∧ w.grownBy w' sv.ownBlock ∧
      (v'.ownBlock = sv.ownBlock ∨ ∀ k, v'.ownBlock = some k → w.heap.size ≤ k) := by
  obtain ⟨i, hi, hz0, hz1, hz2⟩ := info_parts dinfo5
  have hsz : s.data.toList.length = s.size := rfl
  rcases h with ⟨rfl, rfl⟩ | ⟨g, cap, cur, mk, rfl, hSg, hg, hn, hcm, hcs, hmk, ht⟩
  · obtain ⟨v', w', hr, hown, hgr, hnil⟩ := Lib.run_append_own_string (P := Tryz.prog) w w.heap.size 74 9 ty 5 i Tryz.underlying74 Tryz.underlying9 hi hz0 hz1 hz2 (.slice none 0 0) 0 [] (World.ownsRow_nil _ _ _ _) s (by unfold maxLen; omega) (by omega) (Nat.le_refl _)
    rw [Nat.zero_add, List.nil_append] at hown
    refine ⟨v', w', hr, ?_, .inl ⟨rfl, rfl⟩, hgr, .inr (fun k hk => (hown.lt k hk).1)⟩
    rw [List.nil_append]
    exact ownsRow_bytes hown (fun k h1 h2 => .inr ⟨h1, h2⟩)
  · have hmk' : mk = (0, 0) ∨ cur.size ≤ mk.1 := by
      rcases hmk with h | h
      · exact .inl h
      · right; rw [h]; simp; omega
    by_cases hroom : bs.length + s.size ≤ cap
    · have hr := append_room w ty g bs.length cap cur mk hg hmk' s hroom (by omega)
      have hnew := setRow_heap w g cur (cur.toList.take bs.length ++ Lib.strCells s ++ cur.toList.drop (bs.length + s.size)).toArray 5 _ hg
      have hsize : (cur.toList.take bs.length ++ Lib.strCells s ++ cur.toList.drop (bs.length + s.size)).toArray.size = cap := by
        simp only [List.size_toArray, List.length_append, List.length_take, List.length_drop, Array.length_toList, Lib.strCells_length]
        omega
      have htk : ∀ m, m = bs.length + s.size → ((cur.toList.take bs.length ++ Lib.strCells s ++ cur.toList.drop (bs.length + s.size)).toArray).toList.take m = u8s (bs ++ s.data.toList) := by
        intro m hm
        have e1 : (cur.toList.take bs.length ++ Lib.strCells s).length = m := by rw [ht, List.length_append, u8s_length, Lib.strCells_length, hm]
        rw [List.toList_toArray, ← e1, List.take_left, ht, strCells_u8s]
        simp [u8s]
      refine ⟨_, _, hr, .inr ⟨g, cap, _, mk, by rw [List.length_append, hsz], .inl hSg, hnew, by rw [List.length_append, hsz]; exact hroom, hcm, hsize, hmk, ?_⟩, .inr ⟨g, cap, _, mk, rfl, hSg, hnew, hn, hcm, hsize, hmk, ?_⟩,
        ⟨rfl, rfl, rfl, by simp, fun k _ hk => setRow_other w g k _ (fun e => hk (by simp [Value.ownBlock, e]))⟩, .inl rfl⟩
      · exact htk _ (by rw [List.length_append, hsz])
      · rw [List.toList_toArray, List.append_assoc, List.take_append_of_le_length (by rw [ht, u8s_length]; exact Nat.le_refl _), ht, List.take_of_length_le (by rw [u8s_length]; exact Nat.le_refl _)]
    · have hB : BytesAt w S (.slice (some ⟨g, 0, none⟩) bs.length cap) bs := .inr ⟨g, cap, cur, mk, rfl, hSg, hg, hn, hcm, hcs, hmk, ht⟩
      have holds : ∀ j u, (u8s bs)[j]? = some u → w.cell? ((⟨g, 0, none⟩ : Addr).add j) = some u := by
        intro j u hu
        have hadd : (⟨g, 0, none⟩ : Addr).add j = ⟨g, j, none⟩ := by unfold Addr.add; split <;> simp_all
        rcases Nat.lt_or_ge j bs.length with hj | hj
        · rw [hadd, hB.cell j hj, ← hu]; simp [u8s, hj]
        · rw [List.getElem?_eq_none (by rw [u8s_length]; exact hj)] at hu; cases hu
      have hr := Lib.run_append_grow_string (P := Tryz.prog) w 74 9 ty 5 i (.int .u8 0) Tryz.underlying74 Tryz.underlying9 hi hz0 ⟨g, 0, none⟩ bs.length cap (u8s bs) (by rw [hz1, u8s_length, Nat.mul_one]) holds s (by omega) (by omega) (by rw [hz2]; exact growslice_fits (by omega) (by omega))
      have hge := grownCap_ge w (bs.length + s.size) cap 5
      have hcm2 := grownCap_le_maxLen w (bs.length + s.size) cap 5 (by unfold maxLen; omega)
      have hgl := (Array.getElem?_eq_some_iff.1 hg).1
      have hold : ∀ o k, k < w.heap.size → (w.drew.alloc o).heap[k]? = w.heap[k]? := fun o k hk => Below.heap_alloc w.drew o k hk
      refine ⟨_, _, hr, .inr ⟨w.heap.size, grownCap w (bs.length + s.size) cap 5, _, (0, 0), by rw [List.length_append, hsz], .inr ⟨Nat.le_refl _, by simp⟩, heap_alloc_new w.drew _, by rw [List.length_append, hsz]; exact hge, hcm2, ?_, .inl rfl, ?_⟩,
        hB.kept (fun _ hk => hk) (fun k hk => hold _ k (hB.lt k hk).2), ⟨rfl, rfl, rfl, by simp, fun k hk _ => hold _ k hk⟩, .inr (fun k hk => by simp [Value.ownBlock] at hk; omega)⟩
      · have hz3 : (Value.int IntKind.u8 0).cells.size = 1 := rfl
        simp only [Array.size_append, List.size_toArray, size_zeroCells, hz3, u8s_length, Lib.strCells_length]
        omega
      · have e1 : (bs ++ s.data.toList).length = (u8s bs ++ Lib.strCells s).length := by rw [List.length_append, List.length_append, u8s_length, Lib.strCells_length, hsz]
        simp only [Array.toList_append, List.toList_toArray]
        rw [e1, List.take_left, strCells_u8s]
        simp [u8s]
end Go.Proofs.YtclldpecbocclaaGreat

/- What Append does. -/
namespace Go.Proofs.YtclldpecbocclaaGreat
open Go.RowKit Go.Maps Go.Sort
open Go.WideMaps (keyOf_string_mk)
set_option maxRecDepth 100000
set_option linter.unusedSimpArgs false
set_option linter.unusedVariables false

theorem step_append_run {ops : Array Oper} {o : Oper} {a : Act} {w : World} {K : Act → World → Prop} {Q : Exit → Act → World → Prop} {E : Prop}
    (hg : o.guard = none) (s x : Operand) (hop : o.op = Op.call { callee := Callee.builtin Builtin.append, args := #[s, x], argTypes := #[74, 9] })
    (sv xv v' : Value) (w3 : World) (hs : a.eval s = sv) (hx : a.eval x = xv) (hrun : ∀ ty, (Builtin.append_ #[74, 9] ty #[sv, xv]).run Tryz.prog w = .ok v' w3)
    (hK : K (a.put o.dst v') w3) : if Region.wanted o (yielded ops a.tmps) = true then Oper.wp Tryz.prog o a w K Q else E := by
  have hw : Region.wanted o (yielded ops a.tmps) = true := by simp [Region.wanted, hg]
  rw [if_pos hw]
  have hr := hrun o.type
  unfold Oper.wp
  simp [execOp, hop, resolve, invoke, builtin, hs, hx, hr, Result.andThen]
  exact hK

theorem flook_of_mem : ∀ {fs : List (List UInt8 × FileE)}, fs.Pairwise (fun p q => p.1 ≠ q.1) → ∀ {p : List UInt8 × FileE}, p ∈ fs → flook fs p.1 = some p.2
  | [], _, _, h => by cases h
  | q :: r, hp, p, h => by
    have hp' := List.pairwise_cons.1 hp
    unfold flook
    rcases List.mem_cons.1 h with rfl | h
    · simp
    · have hne : (q.1 == p.1) = false := by simpa using hp'.1 p h
      rw [List.find?_cons, hne]
      exact flook_of_mem hp'.2 h

/-- The bytes at a name: what is there, or nothing. -/
def AtName (fs : List (List UInt8 × FileE)) (n : List UInt8) (f : FileE) : Prop := flook fs n = some f ∨ (flook fs n = none ∧ f = ⟨.slice none 0 0, [], 0⟩)

theorem atName_exists (fs : List (List UInt8 × FileE)) (n : List UInt8) : ∃ f, AtName fs n f := by
  cases h : flook fs n with
  | some f => exact ⟨f, .inl h⟩
  | none => exact ⟨_, .inr ⟨h, rfl⟩⟩

theorem AtName.val {fs : List (List UInt8 × FileE)} {n : List UInt8} {f : FileE} (h : AtName fs n f) : fval fs n = f.val ∧ bsAt fs n = f.bs ∧ safeAt fs n = f.safe := by
  unfold fval bsAt safeAt
  rcases h with h | ⟨h, rfl⟩ <;> rw [h]
  · exact ⟨rfl, rfl, rfl⟩
  · exact ⟨rfl, rfl, rfl⟩

theorem AtName.bytes {w : World} {S : Nat → Prop} {a size : Nat} {mo : Option Nat} {fs : List (List UInt8 × FileE)} (h : DiskM w S a size mo fs) {n : List UInt8} {f : FileE} (hf : AtName fs n f) : BytesAt w S f.sv f.bs ∧ f.safe ≤ f.bs.length := by
  rcases hf with hf | ⟨_, rfl⟩
  · exact h.owns _ (flook_mem hf)
  · exact ⟨.inl ⟨rfl, rfl⟩, Nat.le_refl _⟩

theorem AtName.apart {w : World} {S : Nat → Prop} {a size : Nat} {mo : Option Nat} {fs : List (List UInt8 × FileE)} (h : DiskM w S a size mo fs) {n : List UInt8} {f : FileE} (hf : AtName fs n f) :
    ∀ p ∈ fs, p.1 ≠ n → ∀ k, f.sv.ownBlock = some k → p.2.sv.ownBlock ≠ some k := by
  rcases hf with hf | ⟨_, rfl⟩
  · exact apart_at h.apart hf
  · intro p _ _ k hk; simp [Value.ownBlock] at hk

theorem AtName.of_mem {w : World} {S : Nat → Prop} {a size : Nat} {mo : Option Nat} {fs : List (List UInt8 × FileE)} (h : DiskM w S a size mo fs) {n : List UInt8} {f : FileE} (hf : AtName fs n f) {p : List UInt8 × FileE} (hp : p ∈ fs) (he : p.1 = n) : p.2 = f := by
  have := flook_of_mem h.keys hp
  rw [he] at this
  rcases hf with hf | ⟨hf, _⟩
  · rw [hf] at this; exact (Option.some.inj this).symm
  · rw [hf] at this; cases this

/-- The disk stays as it is while the bytes behind one file's length are turned. -/
theorem DiskM.appended {w w3 : World} {S : Nat → Prop} {a size : Nat} {mo : Option Nat} {fs : List (List UInt8 × FileE)} (h : DiskM w S a size mo fs) {n : List UInt8} {f : FileE} (hf : AtName fs n f)
    (hb : BytesAt w3 S f.sv f.bs) (hg : w.grownBy w3 f.sv.ownBlock) : DiskM w3 S a size mo fs := by
  have hB := (hf.bytes h).1
  have hk : ∀ k, S k → f.sv.ownBlock ≠ some k → w3.heap[k]? = w.heap[k]? := fun k hS hne => hg.block k (h.below k hS) (fun e => hne e.symm)
  have hna : f.sv.ownBlock ≠ some a := fun e => by
    obtain ⟨cur, mk, hh⟩ := hB.block a e
    rw [h.cells] at hh
    simp only [Option.some.injEq, Obj.cells.injEq] at hh
    exact absurd hh.2.1 (by decide)
  have hnb : ∀ b, mo = some b → f.sv.ownBlock ≠ some b := fun b hm e => by
    obtain ⟨cur, mk, hh⟩ := hB.block b e
    subst hm
    obtain ⟨es, clock, hmb, _⟩ := (show w.ownsMap Tryz.prog 9 Rh b fs.length (dmap fs) from h.files)
    rw [hmb] at hh
    cases hh
  refine ⟨fun k hk => Nat.lt_of_lt_of_le (h.below k hk) hg.size, h.self, (hk a h.self hna).trans h.cells, h.files.kept (fun b e => hk b (h.mapS b e) (hnb b e)), h.mapS, fun p hp => ?_, h.apart, h.room, h.small, h.few⟩
  by_cases he : p.1 = n
  · have := hf.of_mem h hp he
    rw [this]
    exact ⟨hb, (hf.bytes h).2⟩
  · have hp1 := (h.owns p hp).1
    exact ⟨hp1.kept (fun _ hk => hk) (fun k hk' => hk k (hp1.lt k hk').1 (fun e => hf.apart h p hp he k e hk')), (h.owns p hp).2⟩

theorem dextract_take (b : ByteArray) (m : Nat) : (b.extract 0 m).data.toList = b.data.toList.take m := by
  simp

end Go.Proofs.YtclldpecbocclaaGreat

/- The files without their memory: names, bytes, how many are safe; what a crash makes of them. -/
namespace Go.Proofs.YtclldpecbocclaaGreat
open Go.RowKit Go.Maps Go.Sort
set_option maxRecDepth 100000
set_option linter.unusedSimpArgs false
set_option linter.unusedVariables false

/-- A name, its bytes, how many of them are safe. -/
structure AF where
  name : List UInt8
  bs : List UInt8
  safe : Nat

def absE (p : List UInt8 × FileE) : AF := ⟨p.1, p.2.bs, p.2.safe⟩
def abs (fs : List (List UInt8 × FileE)) : List AF := fs.map absE

theorem abs_length (fs : List (List UInt8 × FileE)) : (abs fs).length = fs.length := by simp [abs]

theorem before_asymm {x y : List UInt8} (h : bytesBefore x y = true) : bytesBefore y x = false := by
  cases h2 : bytesBefore y x with
  | false => rfl
  | true =>
    have := WideShapes.bytes_trans _ _ _ h h2
    rw [WideAt.bytes_irrefl] at this
    cases this

theorem before_ne {x y : List UInt8} (h : bytesBefore x y = true) : x ≠ y := fun e => by rw [e, WideAt.bytes_irrefl] at h; cases h

theorem fput_set (n : List UInt8) (f : FileE) : ∀ (fs : List (List UInt8 × FileE)) (j : Nat), fs.Pairwise (fun p q => bytesBefore p.1 q.1 = true) → (∀ p, fs[j]? = some p → p.1 = n) → j < fs.length → fput fs n f = fs.set j (n, f)
  | [], j, _, _, hj => by simp at hj
  | q :: r, 0, hp, hn, _ => by
    have hq : q.1 = n := hn q rfl
    have hp' := List.pairwise_cons.1 hp
    have hr : fdel r n = r := fdel_of_ne n r (fun p hp => by rw [← hq]; exact (before_ne (hp'.1 p hp)).symm)
    have e1 : fdel (q :: r) n = r := by
      have : (q.1 == n) = true := by simpa using hq
      unfold fdel at hr ⊢
      rw [List.filter_cons]
      simp only [this, Bool.not_true, Bool.false_eq_true, if_false, hr]
    unfold fput
    rw [e1, List.set_cons_zero]
    cases r with
    | nil => rfl
    | cons z t =>
      have hz : bytesBefore n z.1 = true := by rw [← hq]; exact hp'.1 z (by simp)
      simp [fins, hz]
  | q :: r, j + 1, hp, hn, hj => by
    have hp' := List.pairwise_cons.1 hp
    have hj' : j < r.length := by simpa using hj
    have hpj : r[j].1 = n := hn r[j] (by simp [hj'])
    have hqn : bytesBefore q.1 n = true := by rw [← hpj]; exact hp'.1 _ (List.getElem_mem hj')
    have ih := fput_set n f r j hp'.2 (fun p hp => hn p (by simpa using hp)) hj'
    have e1 : fdel (q :: r) n = q :: fdel r n := by
      have : (q.1 == n) = false := by simpa using before_ne hqn
      unfold fdel
      rw [List.filter_cons]
      simp [this]
    unfold fput at ih ⊢
    rw [e1, List.set_cons_succ, ← ih]
    simp [fins, before_asymm hqn]

def crash1 (ks : List Int) (i : Nat) (x : AF) : AF := ⟨x.name, x.bs.take (x.safe + keptN ks i (x.bs.length - x.safe)), x.safe + keptN ks i (x.bs.length - x.safe)⟩

/-- The first j files, crashed. -/
def crashL (ks : List Int) : Nat → Nat → List AF → List AF
  | _, 0, l => l
  | _, _ + 1, [] => []
  | i, j + 1, x :: r => if x.bs.length = x.safe then x :: crashL ks i j r else crash1 ks i x :: crashL ks (i + 1) j r

def dirtyN : Nat → List AF → Nat
  | 0, _ => 0
  | _ + 1, [] => 0
  | j + 1, x :: r => (if x.bs.length = x.safe then 0 else 1) + dirtyN j r

theorem dirtyN_le : ∀ (j : Nat) (l : List AF), dirtyN j l ≤ j
  | 0, _ => Nat.le_refl _
  | _ + 1, [] => by simp [dirtyN]
  | j + 1, x :: r => by have := dirtyN_le j r; simp only [dirtyN]; split <;> omega

theorem crashL_length (ks : List Int) : ∀ (i j : Nat) (l : List AF), (crashL ks i j l).length = l.length
  | _, 0, l => by simp [crashL]
  | _, _ + 1, [] => rfl
  | i, j + 1, x :: r => by simp only [crashL]; split <;> simp [crashL_length ks _ j r]

theorem crashL_at (ks : List Int) : ∀ (i j : Nat) (l : List AF), (crashL ks i j l)[j]? = l[j]?
  | _, 0, l => by simp [crashL]
  | _, _ + 1, [] => rfl
  | i, j + 1, x :: r => by simp only [crashL]; split <;> simp [crashL_at ks _ j r]

theorem crashL_clean (ks : List Int) : ∀ (i j : Nat) (l : List AF) (x : AF), l[j]? = some x → x.bs.length = x.safe → crashL ks i (j + 1) l = crashL ks i j l
  | i, 0, [], x, h, _ => by simp at h
  | i, 0, y :: r, x, h, hc => by
    simp at h; subst h
    simp [crashL, hc]
  | i, j + 1, [], x, h, _ => by simp at h
  | i, j + 1, y :: r, x, h, hc => by
    have h' : r[j]? = some x := by simpa using h
    rw [crashL]
    conv => rhs; rw [crashL]
    split
    · rw [crashL_clean ks i j r x h' hc]
    · rw [crashL_clean ks (i + 1) j r x h' hc]

theorem crashL_dirty (ks : List Int) : ∀ (i j : Nat) (l : List AF) (x : AF), l[j]? = some x → x.bs.length ≠ x.safe → crashL ks i (j + 1) l = (crashL ks i j l).set j (crash1 ks (i + dirtyN j l) x)
  | i, 0, [], x, h, _ => by simp at h
  | i, 0, y :: r, x, h, hc => by
    simp at h; subst h
    simp [crashL, hc, dirtyN]
  | i, j + 1, [], x, h, _ => by simp at h
  | i, j + 1, y :: r, x, h, hc => by
    have h' : r[j]? = some x := by simpa using h
    rw [crashL]
    conv => rhs; rw [crashL]
    by_cases hy : y.bs.length = y.safe
    · simp only [hy, if_true, dirtyN]
      rw [crashL_dirty ks i j r x h' hc, List.set_cons_succ, Nat.zero_add]
    · simp only [hy, if_false, dirtyN]
      rw [crashL_dirty ks (i + 1) j r x h' hc, List.set_cons_succ]
      congr 3
      omega

theorem dirtyN_clean : ∀ (j : Nat) (l : List AF) (x : AF), l[j]? = some x → x.bs.length = x.safe → dirtyN (j + 1) l = dirtyN j l
  | 0, [], x, h, _ => by simp at h
  | 0, y :: r, x, h, hc => by simp at h; subst h; simp [dirtyN, hc]
  | j + 1, [], x, h, _ => by simp at h
  | j + 1, y :: r, x, h, hc => by
    have h' : r[j]? = some x := by simpa using h
    rw [dirtyN, dirtyN_clean j r x h' hc]
    rfl

theorem dirtyN_dirty : ∀ (j : Nat) (l : List AF) (x : AF), l[j]? = some x → x.bs.length ≠ x.safe → dirtyN (j + 1) l = dirtyN j l + 1
  | 0, [], x, h, _ => by simp at h
  | 0, y :: r, x, h, hc => by simp at h; subst h; simp [dirtyN, hc]
  | j + 1, [], x, h, _ => by simp at h
  | j + 1, y :: r, x, h, hc => by
    have h' : r[j]? = some x := by simpa using h
    rw [dirtyN, dirtyN_dirty j r x h' hc]
    simp only [dirtyN]
    omega

theorem crashL_names (ks : List Int) : ∀ (i j : Nat) (l : List AF), (crashL ks i j l).map AF.name = l.map AF.name
  | _, 0, l => by simp [crashL]
  | _, _ + 1, [] => rfl
  | i, j + 1, x :: r => by simp only [crashL]; split <;> simp [crashL_names ks _ j r, crash1]

def totalA : List AF → Nat
  | [] => 0
  | x :: r => x.bs.length + totalA r
theorem total_abs : ∀ fs : List (List UInt8 × FileE), totalA (abs fs) = total fs
  | [] => rfl
  | p :: r => by have := total_abs r; unfold abs at this ⊢; simp only [List.map_cons, totalA, total, this]; rfl

theorem totalA_set : ∀ (l : List AF) (j : Nat) (x y : AF), l[j]? = some x → y.bs.length ≤ x.bs.length → totalA (l.set j y) ≤ totalA l
  | [], _, _, _, h, _ => by simp at h
  | z :: r, 0, x, y, h, hle => by simp at h; subst h; simp [totalA]; omega
  | z :: r, j + 1, x, y, h, hle => by
    have := totalA_set r j x y (by simpa using h) hle
    simp [totalA]; omega

theorem abs_set (fs : List (List UInt8 × FileE)) (j : Nat) (p : List UInt8 × FileE) : abs (fs.set j p) = (abs fs).set j (absE p) := by simp [abs, List.map_set]
theorem abs_at (fs : List (List UInt8 × FileE)) (j : Nat) : (abs fs)[j]? = (fs[j]?).map absE := by simp [abs]
end Go.Proofs.YtclldpecbocclaaGreat

