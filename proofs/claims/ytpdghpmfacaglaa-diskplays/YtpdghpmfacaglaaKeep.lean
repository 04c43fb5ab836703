/- What stays of a disk while other memory is turned; what kept, Sync and Replace do. -/
import Derived.Test.YtpdghpmfacaglaaFree
import Derived.Test.YtpdghpmfacaglaaCopy
namespace Go.Proofs.Ytpdghpmfacaglaa
open Go.RowKit Go.Maps
open Go.WideMaps (keyOf_string_mk)
set_option maxRecDepth 100000
set_option linter.unusedSimpArgs false
set_option linter.unusedVariables false

theorem DiskM.kept {w w1 : World} {S : Nat → Prop} {a size : Nat} {mo : Option Nat} {fs : List (List UInt8 × FileE)} (h : DiskM w S a size mo fs) (hb : ∀ k, S k → w1.heap[k]? = w.heap[k]?) (hs : w.heap.size ≤ w1.heap.size) : DiskM w1 S a size mo fs :=
  ⟨fun k hk => Nat.lt_of_lt_of_le (h.below k hk) hs, h.self, (hb a h.self).trans h.cells, h.files.kept (fun b e => hb b (h.mapS b e)), h.mapS, fun p hp => ⟨(h.owns p hp).1.kept (fun _ hk => hk) (fun k hk => hb k ((h.owns p hp).1.lt k hk).1), (h.owns p hp).2⟩, h.apart, h.room, h.small, h.few⟩

theorem DiskM.under {w w1 : World} {S : Nat → Prop} {a size : Nat} {mo : Option Nat} {fs : List (List UInt8 × FileE)} (h : DiskM w S a size mo fs) (hb : Below w.heap.size w w1) : DiskM w1 S a size mo fs :=
  h.kept (fun k hk => hb.block k (h.below k hk)) hb.size

theorem DiskM.beside {w w1 : World} {S T : Nat → Prop} {a size : Nat} {mo : Option Nat} {fs : List (List UInt8 × FileE)} (h : DiskM w S a size mo fs) (hk : Keeps T w w1) (hd : ∀ k, S k → ¬ T k) : DiskM w1 S a size mo fs :=
  h.kept (fun k hS => hk.block k (h.below k hS) (hd k hS)) hk.size

theorem DiskM.more {w : World} {S T : Nat → Prop} {a size : Nat} {mo : Option Nat} {fs : List (List UInt8 × FileE)} (h : DiskM w S a size mo fs) (hS : ∀ k, S k → T k) (hT : ∀ k, T k → k < w.heap.size) : DiskM w T a size mo fs :=
  ⟨hT, hS a h.self, h.cells, h.files, fun b e => hS b (h.mapS b e), fun p hp => ⟨(h.owns p hp).1.kept hS (fun _ _ => rfl), (h.owns p hp).2⟩, h.apart, h.room, h.small, h.few⟩

theorem Keeps.refl (S : Nat → Prop) (w : World) : Keeps S w w := ⟨rfl, rfl, rfl, Nat.le_refl _, fun _ _ _ => rfl⟩
theorem Keeps.of_below {S : Nat → Prop} {w w1 : World} (h : Below w.heap.size w w1) : Keeps S w w1 := ⟨h.os, h.tape, h.output, h.size, fun k hk _ => h.block k hk⟩
theorem Keeps.trans {S T : Nat → Prop} {w w1 w2 : World} (h : Keeps S w w1) (k : Keeps T w1 w2) (hT : ∀ x, T x → S x ∨ w.heap.size ≤ x) : Keeps S w w2 :=
  ⟨k.os.trans h.os, k.tape.trans h.tape, k.output.trans h.output, Nat.le_trans h.size k.size, fun x hx hS => (k.block x (Nat.lt_of_lt_of_le hx h.size) (fun ht => by rcases hT x ht with h1 | h1; exact hS h1; omega)).trans (h.block x hx hS)⟩
theorem Keeps.below {S : Nat → Prop} {w w1 : World} {B : Nat} (h : Keeps S w w1) (hB : B ≤ w.heap.size) (hS : ∀ k, S k → B ≤ k) : Below B w w1 :=
  ⟨h.os, h.tape, h.output, h.size, fun k hk => h.block k (by omega) (fun hs => by have := hS k hs; omega)⟩

/-- What a call leaves of a disk: the disk with other files, its blocks old or new. -/
def After (S : Nat → Prop) (w w' : World) (a size : Nat) (fs : List (List UInt8 × FileE)) : Prop :=
  ∃ S' mo', DiskM w' S' a size mo' fs ∧ (∀ k, S' k → S k ∨ w.heap.size ≤ k) ∧ (∀ k, S k → S' k) ∧ Keeps S w w'

/-- The numbers of a crash. -/
def IntsAt (w : World) (oa : Option Addr) (ks : List Int) : Prop :=
  ks = [] ∨ ∃ b off, oa = some ⟨b, off, none⟩ ∧ ∀ j (hj : j < ks.length), w.cell? ⟨b, off + j, none⟩ = some (.int .i64 ks[j]) ∧ -9223372036854775808 ≤ ks[j] ∧ ks[j] ≤ 9223372036854775807

theorem IntsAt.kept {w w1 : World} {oa : Option Addr} {ks : List Int} (h : IntsAt w oa ks) (hb : ∀ b off, oa = some ⟨b, off, none⟩ → w1.heap[b]? = w.heap[b]?) : IntsAt w1 oa ks := by
  rcases h with h | ⟨b, off, e, h⟩
  · exact .inl h
  · exact .inr ⟨b, off, e, fun j hj => ⟨(World.cell?_of_block (a := ⟨b, off + j, none⟩) (hb b off e)).trans (h j hj).1, (h j hj).2⟩⟩

def keptN (ks : List Int) (i loose : Nat) : Nat :=
  match ks[i]? with
  | none => 0
  | some k => ((if k < 0 then -(k + 1) else k) % ((loose : Int) + 1)).toNat

theorem keptN_le (ks : List Int) (i loose : Nat) : keptN ks i loose ≤ loose := by
  unfold keptN
  split
  · omega
  · rename_i k _
    have h1 := Int.emod_lt_of_pos (if k < 0 then -(k + 1) else k) (show 0 < (loose : Int) + 1 by omega)
    have h2 := Int.emod_nonneg (if k < 0 then -(k + 1) else k) (show (loose : Int) + 1 ≠ 0 by omega)
    omega

theorem not_neg (k : Int) (h1 : -9223372036854775808 ≤ k) (h2 : k < 0) : bits .xor .i64 (-1) k = -(k + 1) := by
  show IntKind.i64.wrap ((BitVec.ofInt 64 (-1) ^^^ BitVec.ofInt 64 k).toNat : Int) = _
  have e1 : BitVec.ofInt 64 (-1) = BitVec.allOnes 64 := by decide
  rw [e1, BitVec.allOnes_xor, BitVec.toNat_not, BitVec.toNat_ofInt]
  simp [IntKind.wrap, IntKind.bits, IntKind.signed]
  omega

set_option maxHeartbeats 400000 in
theorem kept_any (w : World) (oa : Option Addr) (ks : List Int) (cap i loose : Nat) (hk : IntsAt w oa ks) (hlen : ks.length ≤ maxLen) (hi : i ≤ 256) (hl : loose ≤ 16777216) :
    Calls Try.prog 45 #[.slice oa ks.length cap, .int .i64 (i : Int), .int .i64 (loose : Int)] w fun e w' => e = .returned (.int .i64 (keptN ks i loose : Int)) ∧ w' = w := by
  unfold maxLen at hlen
  by_cases hik : i < ks.length
  · rcases hk with rfl | ⟨b, off, rfl, hc⟩
    · simp at hik
    · obtain ⟨hc1, h1, h2⟩ := hc i hik
      clear hc
      have hn : ¬ ((ks.length : Int) ≤ (i : Int)) := by omega
      have hik' : (i : Int) < (ks.length : Int) := by omega
      have e0 : ks[i]? = some ks[i] := by simp [hik]
      generalize ks[i] = k at *
      have hfin : Hid ((keptN ks i loose : Int) = (if k < 0 then -(k + 1) else k) % ((loose : Int) + 1)) := by
        show (keptN ks i loose : Int) = _
        unfold keptN
        rw [e0]
        exact Int.toNat_of_nonneg (Int.emod_nonneg _ (by omega))
      clear e0
      by_cases hneg : k < 0
      · go_enter Try.func45, Try.ntmps45
        go_wp2
        go_ret
        refine ⟨ret_int ?_, rfl⟩
        rw [hfin.out, if_pos hneg]
        rw [not_neg k h1 hneg]
        exact Int.tmod_eq_emod_of_nonneg (by omega)
      · go_enter Try.func45, Try.ntmps45
        go_wp2
        go_ret
        refine ⟨ret_int ?_, rfl⟩
        rw [hfin.out, if_neg (by omega)]
  · have hn : ((ks.length : Int) ≤ (i : Int)) := by omega
    have hfin : Hid (keptN ks i loose = 0) := by
      show _ = 0
      unfold keptN
      rw [List.getElem?_eq_none (by omega)]
    go_enter Try.func45, Try.ntmps45
    go_wp2
    go_ret
    exact ⟨ret_int (by rw [hfin.out]; rfl), rfl⟩

theorem After.trans_below {S : Nat → Prop} {w w1 w2 : World} {a size : Nat} {fs : List (List UInt8 × FileE)} (hb : Below w.heap.size w w1) (h : After S w1 w2 a size fs) : After S w w2 a size fs := by
  obtain ⟨S', mo', hd, h1, h2, h3⟩ := h
  refine ⟨S', mo', hd, fun k hk => ?_, h2, (Keeps.of_below hb).trans h3 (fun x hx => .inl hx)⟩
  rcases h1 k hk with h | h
  · exact .inl h
  · exact .inr (Nat.le_trans hb.size h)

theorem After.then_below {S : Nat → Prop} {w w1 w2 : World} {a size : Nat} {fs : List (List UInt8 × FileE)} (h : After S w w1 a size fs) (hb : Below w1.heap.size w1 w2) : After S w w2 a size fs := by
  obtain ⟨S', mo', hd, h1, h2, h3⟩ := h
  exact ⟨S', mo', hd.under hb, h1, h2, h3.trans (T := fun _ => False) (Keeps.of_below hb) (fun x hx => hx.elim)⟩

theorem After.same {S : Nat → Prop} {w w1 : World} {a size : Nat} {mo : Option Nat} {fs : List (List UInt8 × FileE)} (h : DiskM w S a size mo fs) (hb : Below w.heap.size w w1) : After S w w1 a size fs :=
  ⟨S, mo, h.under hb, fun _ hk => .inl hk, fun _ hk => hk, Keeps.of_below hb⟩

theorem After.then {S S1 : Nat → Prop} {w w1 w2 : World} {a size : Nat} {fs2 : List (List UInt8 × FileE)} (hk : Keeps S w w1) (h1 : ∀ k, S1 k → S k ∨ w.heap.size ≤ k) (h2 : ∀ k, S k → S1 k) (h : After S1 w1 w2 a size fs2) : After S w w2 a size fs2 := by
  obtain ⟨S', mo', hd, g1, g2, g3⟩ := h
  refine ⟨S', mo', hd, fun k hk' => ?_, fun k hS => g2 k (h2 k hS), hk.trans g3 h1⟩
  rcases g1 k hk' with h | h
  · exact h1 k h
  · exact .inr (Nat.le_trans hk.size h)

theorem flook_isSome_iff {fs : List (List UInt8 × FileE)} {n : List UInt8} : (flook fs n).isSome = true ↔ ∃ p ∈ fs, p.1 = n := by
  unfold flook
  rw [Option.isSome_map, List.find?_isSome]
  simp

theorem len_fdel_there {fs : List (List UInt8 × FileE)} {n : List UInt8} (h : (flook fs n).isSome = true) : (fdel fs n).length + 1 ≤ fs.length := by
  obtain ⟨p, hp, he⟩ := flook_isSome_iff.1 h
  unfold fdel
  have := List.length_filter_lt_length_iff_exists (p := fun p : List UInt8 × FileE => !(p.1 == n)) (l := fs)
  have h2 := this.2 ⟨p, hp, by simp [he]⟩
  omega

theorem len_fdel_le (fs : List (List UInt8 × FileE)) (n : List UInt8) : (fdel fs n).length ≤ fs.length := List.length_filter_le _ _

theorem len_fput (fs : List (List UInt8 × FileE)) (n : List UInt8) (f : FileE) : (fput fs n f).length = (fdel fs n).length + 1 := len_fins _ _
theorem total_fput (fs : List (List UInt8 × FileE)) (n : List UInt8) (f : FileE) : total (fput fs n f) = f.bs.length + total (fdel fs n) := total_fins _ _

theorem pair_all {α : Type} (T : α → α → Prop) (hs : ∀ p q, T p q → T q p) : ∀ l : List α, l.Pairwise T → ∀ x ∈ l, ∀ y ∈ l, x ≠ y → T x y
  | [], _, x, hx, _, _, _ => by cases hx
  | z :: r, h, x, hx, y, hy, hne => by
    have h' := List.pairwise_cons.1 h
    rcases List.mem_cons.1 hx with rfl | hx
    · rcases List.mem_cons.1 hy with rfl | hy
      · exact absurd rfl hne
      · exact h'.1 y hy
    · rcases List.mem_cons.1 hy with e | hy
      · rw [e]; exact hs _ _ (h'.1 x hx)
      · exact pair_all T hs r h'.2 x hx y hy hne

/-- The files but for one name lie in other blocks than that name's. -/
theorem apart_at {fs : List (List UInt8 × FileE)} (hA : fs.Pairwise (fun p q => ∀ k, p.2.sv.ownBlock = some k → q.2.sv.ownBlock ≠ some k)) {n : List UInt8} {f : FileE} (hf : flook fs n = some f) :
    ∀ p ∈ fs, p.1 ≠ n → ∀ k, f.sv.ownBlock = some k → p.2.sv.ownBlock ≠ some k := by
  have hm := flook_mem hf
  intro p hp hne k hk hq
  have hsym := fun x hx y hy hxy => pair_all _ (fun u v (h : ∀ k, u.2.sv.ownBlock = some k → v.2.sv.ownBlock ≠ some k) j hj hv => h j hv hj) fs hA x hx y hy hxy
  exact hsym _ hm p hp (fun e => hne (by rw [← e])) k hk hq

set_option maxHeartbeats 400000 in
theorem sync_yes {w : World} {S : Nat → Prop} {a size : Nat} {mo : Option Nat} {fs : List (List UInt8 × FileE)} (h : DiskM w S a size mo fs) (n : ByteArray) (hn : n.size ≤ maxLen) (f : FileE) (hf : flook fs n.data.toList = some f) :
    Calls Try.prog 18 #[.pointer (some ⟨a, 0, none⟩), .string n] w fun e w' => e = .returned (.int .i64 0) ∧ After S w w' a size (fput fs n.data.toList ⟨f.sv, f.bs, f.bs.length⟩) := by
  have c1 := h.c1
  have hl := h.files.look_ok n hn
  have hbf := (h.owns _ (flook_mem hf)).1
  have hap := apart_at h.apart hf
  obtain ⟨sv, bs, safe⟩ := f
  simp only at hbf hap ⊢
  obtain ⟨oa, cap, e⟩ := hbf.shape
  subst e
  have ht := total_fdel_le fs n.data.toList
  have hle : lenAt fs n.data.toList = bs.length := by unfold lenAt; rw [hf]
  have hsome : (flook fs n.data.toList).isSome = true := by rw [hf]; rfl
  have hr := h.room
  have hfw := h.few
  have hd := len_fdel_there hsome
  have ev : fval fs n.data.toList = .agg #[.slice oa bs.length cap, .int .i64 (safe : Int)] := by unfold fval; rw [hf]; rfl
  rw [ev, hsome] at hl
  have HP : Hid (∀ W, Below w.heap.size w W → Calls Try.prog 42 #[.pointer (some ⟨a, 0, none⟩), .string n, .agg #[.slice oa bs.length cap, .int .i64 (bs.length : Int)]] W fun e w' => e = .returned (.tuple #[]) ∧ After S w w' a size (fput fs n.data.toList ⟨.slice oa bs.length cap, bs, bs.length⟩)) := by
    intro W hW
    have := put_any (h.under hW) n hn ⟨.slice oa bs.length cap, bs, bs.length⟩ (hbf.kept (fun _ hk => hk) (fun k hk => hW.block k (hbf.lt k hk).2)) (Nat.le_refl _) hap (by rw [total_fput]; simp only; omega) (by rw [len_fput]; omega)
    exact this.mono (fun e w' ⟨h1, h2⟩ => ⟨h1, After.trans_below hW h2⟩)
  clear h hbf ev hf hsome hap
  go_enter Try.func18, Try.ntmps18
  go_wp2_with (go_at_call 42; refine (HP.out _ ((Below.refl _ _).alloc (Nat.le_refl _) _)).mono ?_; rintro e w' ⟨rfl, hA⟩)
  go_ret
  exact ⟨rfl, hA⟩

set_option maxHeartbeats 400000 in
theorem sync_no {w : World} {S : Nat → Prop} {a size : Nat} {mo : Option Nat} {fs : List (List UInt8 × FileE)} (h : DiskM w S a size mo fs) (n : ByteArray) (hn : n.size ≤ maxLen) (hs : (flook fs n.data.toList).isSome = false) :
    Calls Try.prog 18 #[.pointer (some ⟨a, 0, none⟩), .string n] w fun e w' => e = .returned (.int .i64 8) ∧ Below w.heap.size w w' := by
  have c1 := h.c1
  have hl := h.files.look_ok n hn
  obtain ⟨oa, cap, e, hb, _⟩ := h.at_name n.data.toList
  rw [e, hs] at hl
  clear h e hs hb
  go_enter Try.func18, Try.ntmps18
  go_wp2
  go_ret
  exact ⟨rfl, (Below.refl _ _).alloc (Nat.le_refl _) _⟩
end Go.Proofs.Ytpdghpmfacaglaa
