/- add, disk, Next; load. -/
import Derived.Test.YtlgaianlkbaedaaH18
import Derived.Test.YtlgaianlkbaedaaH14
import Derived.Deep.RegionHeld3
import Derived.Test.YtlgaianlkbaedaaH15
namespace Go.Proofs.Ytlgaianlkbaedaa
open Go.RowKit Go.Maps Go.Sort
set_option maxRecDepth 100000
set_option linter.unusedSimpArgs false
set_option linter.unusedVariables false

theorem add_any {w : World} {U q a base name m v} {ix : List Mk} (h : SegM w U q a base name m v ix) (hlen : ix.length ≤ 5000) (hb : m.at_ ≤ 100000000 ∧ ∀ x ∈ ix, x.at_ ≤ 100000000) (e : Mk) :
    Calls Try.prog 33 #[.pointer (some ⟨q, 0, none⟩), .agg #[.int .i64 (e.base : Int), .int .i64 (e.at_ : Int), .int .i64 (e.nth : Int)]] w fun en w' => en = .returned (.tuple #[]) ∧ SAfter U w w' q a base name e (addL ix m) := by
  unfold addL
  cases hY : addB ix m with
  | true => exact add_yes h hlen hb hY e
  | false =>
    rcases List.eq_nil_or_concat ix with h0 | ⟨iy, x, h0⟩
    · rw [h0] at hY; simp [addB] at hY
    · have h0' : ix = iy ++ [x] := by simpa using h0
      subst h0'
      unfold addB at hY
      have hN : ¬ 256 ≤ (m.at_ : Int) - (x.at_ : Int) := by simpa using hY
      exact add_no h (by simp at hlen; omega) ⟨hb.1, hb.2 x (by simp)⟩ hN e

set_option maxHeartbeats 800000 in
theorem sdisk_any {w : World} {U q a base name m v ix} (h : SegM w U q a base name m v ix) : Calls Try.prog 32 #[.pointer (some ⟨q, 0, none⟩)] w fun e w' => e = .returned (.pointer (some ⟨a, 0, none⟩)) ∧ w' = w := by
  obtain ⟨k0, k1, k2, k3, k4, k5, k6⟩ := h.c
  clear h
  go_enter Try.func32, Try.ntmps32
  go_wp2
  go_ret
  exact ⟨rfl, rfl⟩
set_option maxHeartbeats 800000 in
theorem snext_any {w : World} {U q a base name m v ix} (h : SegM w U q a base name m v ix) : Calls Try.prog 12 #[.pointer (some ⟨q, 0, none⟩)] w fun e w' => e = .returned (.int .i64 (m.base : Int)) ∧ w' = w := by
  obtain ⟨k0, k1, k2, k3, k4, k5, k6⟩ := h.c
  clear h
  go_enter Try.func12, Try.ntmps12
  go_wp2
  go_ret
  exact ⟨rfl, rfl⟩

/-- What load takes. -/
def loadL : Nat → Mk → List Mk → List UInt8 → Mk × List Mk × List UInt8
  | 0, m, ix, l => (m, ix, l)
  | f + 1, m, ix, l => match stepL m l with
    | none => (m, ix, l)
    | some (_, m', l') => loadL f m' (addL ix m) l'
theorem stepL_some {m : Mk} {l : List UInt8} {b m' l'} (h : stepL m l = some (b, m', l')) : (readBatchL l).2.2 = 0 ∧ b = (readBatchL l).1 ∧ b.base = (m.base : Int) ∧ m' = m.next b.recs.length (readBatchL l).2.1 ∧ l' = l.drop (readBatchL l).2.1 ∧ m.base + b.recs.length ≤ 1000000000 ∧ m.nth + 1 ≤ 4096 := by
  unfold stepL at h
  split at h
  · cases h
  · rename_i h1
    split at h
    · cases h
    · rename_i h2
      simp only [Option.some.injEq, Prod.mk.injEq] at h
      obtain ⟨rfl, rfl, rfl⟩ := h
      have hE : (readBatchL l).2.2 = 0 := Classical.byContradiction fun h => h1 (.inl h)
      have hB : (readBatchL l).1.base = (m.base : Int) := Classical.byContradiction fun h => h1 (.inr h)
      exact ⟨hE, rfl, hB, rfl, rfl, by omega, by omega⟩
theorem addL_len (ix : List Mk) (m : Mk) : (addL ix m).length ≤ ix.length + 1 := by
  unfold addL
  split <;> simp
theorem addL_mem {ix : List Mk} {m x : Mk} (h : x ∈ addL ix m) : x ∈ ix ∨ x = m := by
  unfold addL at h
  split at h
  · simpa using h
  · exact .inl h
/-- A mark in its bounds, with its index. -/
structure MOk (m : Mk) (ix : List Mk) (l : List UInt8) (tot : Nat) : Prop where
  base : m.base ≤ 1000000000
  nth : m.nth ≤ 4096
  sum : m.at_ + l.length = tot
  len : ix.length ≤ m.nth
  ats : ∀ x ∈ ix, x.at_ ≤ tot
theorem MOk.next {m : Mk} {ix : List Mk} {l : List UInt8} {tot : Nat} (h : MOk m ix l tot) {b m' l'} (hs : stepL m l = some (b, m', l')) : MOk m' (addL ix m) l' tot ∧ l'.length < l.length := by
  obtain ⟨h1, h2, h3, h4, h5, h6, h7⟩ := stepL_some hs
  obtain ⟨g1, g2, g3, g4, g5⟩ := read_facts l h1
  subst h4 h5
  have := h.sum
  have := addL_len ix m
  have := h.len
  refine ⟨⟨h6, h7, ?_, ?_, fun x hx => ?_⟩, by simp; omega⟩
  · simp [Mk.next]; omega
  · simp [Mk.next]; omega
  · rcases addL_mem hx with hx | rfl
    · exact h.ats x hx
    · omega
/-- Where load stands. -/
structure LdAt (w wr : World) (U : Nat → Prop) (q a base : Nat) (name : ByteArray) (c : Nat) (m : Mk) (ix : List Mk) (l : List UInt8) : Prop where
  seg : ∃ U' v', SegM wr U' q a base name m v' ix ∧ (∀ k, U' k → U k ∨ w.heap.size ≤ k) ∧ (∀ k, U k → U' k) ∧ ¬ U' c
  keep : Keeps U w wr
  box : wr.heap[c]? = some (.cells #[.int .i64 (m.base : Int), .int .i64 (m.at_ : Int), .int .i64 (m.nth : Int), .string (strOf l)] 83)
  low : w.heap.size ≤ c
theorem LdAt.under {w wr W U q a base name c m ix l} (h : LdAt w wr U q a base name c m ix l) (hb : Below wr.heap.size wr W) : LdAt w W U q a base name c m ix l := by
  obtain ⟨U', v', h1, h2, h3, h4⟩ := h.seg
  exact ⟨⟨U', v', h1.under hb, h2, h3, h4⟩, h.keep.trans (T := fun _ => False) (Keeps.of_below hb) (fun x hx => by cases hx), (hb.block _ (Array.getElem?_eq_some_iff.1 h.box).1).trans h.box, h.low⟩
end Go.Proofs.Ytlgaianlkbaedaa

/- load. -/
namespace Go.Proofs.Ytlgaianlkbaedaa
open Go.RowKit Go.Maps Go.Sort
set_option maxRecDepth 100000
set_option linter.unusedSimpArgs false
set_option linter.unusedVariables false

/-- The cursor is set anew. -/
theorem LdAt.put {w W w7 : World} {U U' : Nat → Prop} {q a base name c m ix l v'} {U'' : Nat → Prop} (h : LdAt w W U q a base name c m ix l) {m2 : Mk} {ix2 : List Mk} (l2 : List UInt8) (h1 : SegM w7 U'' q a base name m2 v' ix2) (h2 : ∀ k, U'' k → U' k ∨ W.heap.size ≤ k) (h3 : ∀ k, U' k → U'' k) (hk : Keeps U' W w7) (g1 : ∀ k, U' k → U k ∨ w.heap.size ≤ k) (g2 : ∀ k, U k → U' k) (g3 : ¬ U' c) :
    LdAt w ((((w7.setCell ⟨c, 0, none⟩ (.int .i64 (m2.base : Int))).setCell ⟨c, 1, none⟩ (.int .i64 (m2.at_ : Int))).setCell ⟨c, 2, none⟩ (.int .i64 (m2.nth : Int))).setCell ⟨c, 3, none⟩ (.string (strOf l2))) U q a base name c m2 ix2 l2 := by
  have hcl := (Array.getElem?_eq_some_iff.1 h.box).1
  have hc2 : ¬ U'' c := fun hU => by
    rcases h2 c hU with h4 | h4
    · exact g3 h4
    · omega
  have hb : ∀ k, k ≠ c → ((((w7.setCell ⟨c, 0, none⟩ (.int .i64 (m2.base : Int))).setCell ⟨c, 1, none⟩ (.int .i64 (m2.at_ : Int))).setCell ⟨c, 2, none⟩ (.int .i64 (m2.nth : Int))).setCell ⟨c, 3, none⟩ (.string (strOf l2))).heap[k]? = w7.heap[k]? := fun k hk => by
    rw [Below.heap_setCell _ ⟨c, 3, none⟩ _ k hk, Below.heap_setCell _ ⟨c, 2, none⟩ _ k hk, Below.heap_setCell _ ⟨c, 1, none⟩ _ k hk, Below.heap_setCell _ ⟨c, 0, none⟩ _ k hk]
  have hs : ((((w7.setCell ⟨c, 0, none⟩ (.int .i64 (m2.base : Int))).setCell ⟨c, 1, none⟩ (.int .i64 (m2.at_ : Int))).setCell ⟨c, 2, none⟩ (.int .i64 (m2.nth : Int))).setCell ⟨c, 3, none⟩ (.string (strOf l2))).heap.size = w7.heap.size := by rw [set_size, set_size, set_size, set_size]
  have hkk := h.keep.trans hk g1
  have hW := h.keep.size
  refine ⟨⟨U'', v', h1.kept (fun k hk => hb k (fun e => hc2 (by rw [← e]; exact hk))) (by rw [hs]; exact Nat.le_refl _), fun k hk => ?_, fun k hk => h3 k (g2 k hk), hc2⟩, ⟨hkk.os, hkk.tape, hkk.output, by rw [hs]; exact hkk.size, fun k hk hU => (hb k (by have := h.low; omega)).trans (hkk.block k hk hU)⟩, ?_, h.low⟩
  · rcases h2 k hk with h4 | h4
    · exact g1 k h4
    · exact .inr (by omega)
  · exact set_box (set_box (set_box (set_box ((hk.block c hcl g3).trans h.box))))

set_option maxHeartbeats 3200000 in
theorem load_any {w : World} {U q a base name m v} {ix : List Mk} (h : SegM w U q a base name m v ix) {S : Nat → Prop} {size : Nat} {fs : List AF} (hD : DiskA w S a size fs) (hn : name.size ≤ maxLen) {l : List UInt8} (hl : l = abytes fs name.data.toList) {tot : Nat} (hok : MOk m ix l tot) (ht : tot ≤ 100000000) :
    Calls Try.prog 27 #[.pointer (some ⟨q, 0, none⟩)] w fun e w' => e = .returned (.int .i64 ((loadL (l.length + 1) m ix l).2.2.length : Int)) ∧ SAfter U w w' q a base name (loadL (l.length + 1) m ix l).1 (loadL (l.length + 1) m ix l).2.1 := by
  have H32 : Hid (∀ W, Below w.heap.size w W → Calls Try.prog 32 #[.pointer (some ⟨q, 0, none⟩)] W fun e w' => e = .returned (.pointer (some ⟨a, 0, none⟩)) ∧ w' = W) := fun W hb => sdisk_any (h.under hb)
  have H50 : Hid (∀ W, Below w.heap.size w W → Calls Try.prog 50 #[.pointer (some ⟨a, 0, none⟩), .string name] W fun e w' => e = .returned (.tuple #[.string (strOf l), .int .i64 (synE fs name : Int)]) ∧ Below w.heap.size w w') := fun W hb => by
    rw [hl]
    exact (readA (hD.under hb) name hn).mono fun e w' ⟨e1, e2⟩ => ⟨e1, hb.trans (e2.mono hb.size)⟩
  have HU := hid h
  obtain ⟨k0, k1, k2, k3, k4, k5, k6⟩ := h.c
  clear h hl
  have HM := hid hok
  have HLn := hid (Nat.lt_succ_self l.length)
  obtain ⟨R, hF⟩ : ∃ R, loadL (l.length + 1) m ix l = R := ⟨_, rfl⟩
  rw [hF]
  have HR : Hid (loadL (l.length + 1) m ix l = R) := hF
  clear hF
  go_enter Try.func27, Try.ntmps27
  go_wp2_with fail
  go_region_held3 (fun w' => w'.cell? ⟨q, 1, none⟩ = some (.string name)) (go_keep)
    (first
    | (go_at_call 32; refine (H32.out _ (by first | exact (Below.refl _ _) | exact (Below.refl _ _).drew)).mono ?_; rintro e w0 ⟨rfl, rfl⟩)
    | (go_at_call 50; refine (H50.out _ (by first | exact (Below.refl _ _) | exact (Below.refl _ _).drew | exact (Below.refl _ _).drew.drew)).mono ?_; rintro e w1 ⟨rfl, hb1⟩; have kw1 := (HU.out.under hb1).c.2.1)
    | fail)
  have HS1 := hid (HU.out.under hb1)
  obtain ⟨k0, k1, k2, k3, k4, k5, k6⟩ := HS1.out.c
  have H0 : Hid (LdAt w (w1.alloc (.cells #[.int .i64 (m.base : Int), .int .i64 (m.at_ : Int), .int .i64 (m.nth : Int), .string (strOf l)] 83)) U q a base name w1.heap.size m ix l) := by
    have hb2 : Below w1.heap.size w1 (w1.alloc (.cells #[.int .i64 (m.base : Int), .int .i64 (m.at_ : Int), .int .i64 (m.nth : Int), .string (strOf l)] 83)) := (Below.refl _ _).alloc (Nat.le_refl _) _
    have hb3 := hb1.trans (hb2.mono hb1.size)
    exact ⟨⟨U, v, HU.out.under hb3, fun k hk => .inl hk, fun k hk => hk, fun hU => absurd (HU.out.below _ hU) (by have := hb1.size; omega)⟩, Keeps.of_below hb3, heap_alloc_new _ _, hb1.size⟩
  go_wp2_with fail
  clear H32 H50 HS1 k0 k1 k2 k3 k4 k5 k6 kw1 hok hD
  obtain ⟨c, hc⟩ : ∃ c, w1.heap.size = c := ⟨_, rfl⟩
  rw [hc] at H0
  rw [hc]
  go_loopg [8] l.length (fun kx s8 wr => ∃ (m' : Mk) (ix' : List Mk) (l' : List UInt8), l'.length ≤ kx ∧ Hid (LdAt w wr U q a base name c m' ix' l') ∧ Hid (MOk m' ix' l' tot) ∧ Hid (∃ f, l'.length < f ∧ loadL f m' ix' l' = R))
  case atStart => exact ⟨m, ix, l, Nat.le_refl _, H0, HM, _, HLn.out, HR.out⟩
  case round =>
    obtain ⟨m', ix', l', hkx, HD, HM', HF⟩ := hrel
    have hbx := HD.out.box
    have b0 := cell_at hbx (j := 0) rfl
    have b1 := cell_at hbx (j := 1) rfl
    have b2 := cell_at hbx (j := 2) rfl
    have b3 := cell_at hbx (j := 3) rfl
    have hcl := (Array.getElem?_eq_some_iff.1 hbx).1
    have H42 : Hid (∀ W, Below wr.heap.size wr W → Calls Try.prog 42 #[.agg #[.int .i64 (m'.base : Int), .int .i64 (m'.at_ : Int), .int .i64 (m'.nth : Int), .string (strOf l')]] W fun e w' => StepPost m' l' W e w') := fun W hb => step_any m' ⟨HM'.out.base, by have := HM'.out.sum; omega, HM'.out.nth⟩ l' (by have := HM'.out.sum; omega) W
    clear hbx H0
    cases hs : stepL m' l' with
    | none =>
      go_wp2_with fail
      refine (H42.out _ (by first | exact (Below.refl _ _) | exact (Below.refl _ _).drew)).mono ?_
      rintro e w4 ⟨hb4, he, _⟩
      obtain rfl := he hs
      have hb5 : Below w4.heap.size w4 ((w4.alloc (.cells #[.int .i64 0, .int .i64 0, .int .i64 0, .int .i64 0, .int .i64 0, .slice none 0 0] 34)).alloc (.cells #[.int .i64 (m'.base : Int), .int .i64 (m'.at_ : Int), .int .i64 (m'.nth : Int), .string (strOf l')] 83)) := ((Below.refl _ _).alloc (Nat.le_refl _) _).alloc (by simp) _
      have HD4 := hid ((HD.out.under hb4).under hb5)
      have d3 := cell_at HD4.out.box (j := 3) rfl
      have hsz := strOf_size l'
      clear hb5 hb4 b0 b1 b2 b3
      go_wp2_with fail
      go_ret
      obtain ⟨f, hf, hR⟩ := HF.out
      cases f with
      | zero => omega
      | succ f =>
      have e1 : R = (m', ix', l') := by rw [← hR]; unfold loadL; rw [hs]
      rw [e1]
      obtain ⟨U', v', t1, t2, t3, t4⟩ := HD4.out.seg
      exact ⟨rfl, U', v', t1, t2, t3, HD4.out.keep⟩
    | some t =>
      obtain ⟨b, m2, l2⟩ := t
      obtain ⟨hM2, hlt⟩ := HM'.out.next hs
      have HM2 := hid hM2
      have HS := hid hs
      clear hM2 hs
      go_wp2_with fail
      refine (H42.out _ (by first | exact (Below.refl _ _) | exact (Below.refl _ _).drew)).mono ?_
      rintro e w4 ⟨hb4, _, he⟩
      obtain ⟨rv, rfl, hrec, _⟩ := he _ _ _ HS.out
      obtain ⟨ra, rc, rfl, _⟩ := hrec.shape
      clear hrec he
      have hb5 : Below w4.heap.size w4 ((w4.alloc (.cells #[.int .i64 b.base, .int .i64 b.epoch, .int .i64 b.pid, .int .i64 b.pidEpoch, .int .i64 b.seq, .slice ra b.recs.length rc] 34)).alloc (.cells #[.int .i64 (m2.base : Int), .int .i64 (m2.at_ : Int), .int .i64 (m2.nth : Int), .string (strOf l2)] 83)) := ((Below.refl _ _).alloc (Nat.le_refl _) _).alloc (by simp) _
      have HD4 := hid ((HD.out.under hb4).under hb5)
      have HC := hid (heap_alloc_new (w4.alloc (.cells #[.int .i64 b.base, .int .i64 b.epoch, .int .i64 b.pid, .int .i64 b.pidEpoch, .int .i64 b.seq, .slice ra b.recs.length rc] 34)) (.cells #[.int .i64 (m2.base : Int), .int .i64 (m2.at_ : Int), .int .i64 (m2.nth : Int), .string (strOf l2)] 83))
      have g0 := cell_at HC.out (j := 0) rfl
      have g1 := cell_at HC.out (j := 1) rfl
      have g2 := cell_at HC.out (j := 2) rfl
      have g3 := cell_at HC.out (j := 3) rfl
      obtain ⟨U', v', t1, t2, t3, t4⟩ := HD.out.seg
      have HSG := hid ((t1.under hb4).under hb5)
      have HUw : Hid (¬ U' (w4.heap.size + 1)) := fun hU => absurd (t1.below _ hU) (by have := hb4.size; omega)
      have HT := hid (And.intro t2 (And.intro t3 t4))
      clear hb5 hb4 b0 b1 b2 b3 t1 t2 t3 t4
      go_wp2_with fail
      refine (add_any HSG.out (by have := HM'.out.len; have := HM'.out.nth; omega) ⟨by have := HM'.out.sum; omega, fun x hx => by have := HM'.out.ats x hx; omega⟩ m2).mono ?_
      rintro e w7 ⟨rfl, U2, v2, s1, s2, s3, s4⟩
      have HC7 := hid ((s4.block (w4.heap.size + 1) (by simp) HUw.out).trans (by have h := HC.out; simp only [World.alloc, Array.size_push] at h ⊢; exact h))
      have HB7 := hid ((s4.block c (Array.getElem?_eq_some_iff.1 HD4.out.box).1 HT.out.2.2).trans HD4.out.box)
      have HN := hid (HD4.out.put l2 s1 s2 s3 s4 HT.out.1 HT.out.2.1 HT.out.2.2)
      clear g0 g1 g2 g3 s1 s2 s3 s4
      have g0 := cell_at HC7.out (j := 0) rfl
      have g1 := cell_at HC7.out (j := 1) rfl
      have g2 := cell_at HC7.out (j := 2) rfl
      have g3 := cell_at HC7.out (j := 3) rfl
      have b0 := cell_at HB7.out (j := 0) rfl
      have b1 := cell_at HB7.out (j := 1) rfl
      have b2 := cell_at HB7.out (j := 2) rfl
      have b3 := cell_at HB7.out (j := 3) rfl
      have f0 := frozen_blk HB7.out 0
      have f1 := frozen_blk HB7.out 1
      have f2 := frozen_blk HB7.out 2
      have f3 := frozen_blk HB7.out 3
      go_wp2_with fail
      go_roundg l2.length
      case measure => omega
      case rel =>
        refine ⟨m2, addL ix' m', l2, Nat.le_refl _, HN, HM2, ?_⟩
        obtain ⟨f, hf, hR⟩ := HF.out
        cases f with
        | zero => omega
        | succ f =>
          refine ⟨f, by omega, ?_⟩
          rw [← hR]
          conv => rhs; unfold loadL
          rw [HS.out]
end Go.Proofs.Ytlgaianlkbaedaa

/- Cut of the disk; a segment with its disk. -/
namespace Go.Proofs.Ytlgaianlkbaedaa
open Go.RowKit Go.Maps Go.Sort
set_option maxRecDepth 100000
set_option linter.unusedSimpArgs false
set_option linter.unusedVariables false

def cutE (l : List AF) (n : ByteArray) (i : Int) : Nat := if (alook l n.data.toList).isSome = true then (if 0 ≤ i ∧ i ≤ ((abytes l n.data.toList).length : Int) then 0 else 1) else 8
def cutL (l : List AF) (n : ByteArray) (i : Int) : List AF :=
  if (alook l n.data.toList).isSome = true ∧ 0 ≤ i ∧ i ≤ ((abytes l n.data.toList).length : Int) then aput l ⟨n.data.toList, (abytes l n.data.toList).take i.toNat, min (asafe l n.data.toList) i.toNat⟩ else l

theorem cutA {w : World} {S : Nat → Prop} {a size : Nat} {l : List AF} (h : DiskA w S a size l) (n : ByteArray) (hn : n.size ≤ maxLen) (i : Int) :
    Calls Try.prog 28 #[.pointer (some ⟨a, 0, none⟩), .string n, .int .i64 i] w fun e w' => e = .returned (.int .i64 (cutE l n i : Int)) ∧ AfterA S w w' a size (cutL l n i) := by
  obtain ⟨mo, fs, hd, rfl⟩ := h
  unfold cutE cutL
  rw [asome_abs, abytes_abs, asafe_abs]
  cases hf : flook fs n.data.toList with
  | none =>
    simp only [Option.isSome_none, Bool.false_eq_true, false_and, if_false]
    exact (cut_no hd n hn i (by rw [hf]; rfl)).mono (fun e w' ⟨he, hb⟩ => ⟨by rw [he]; rfl, AfterA.same ⟨mo, fs, hd, rfl⟩ hb⟩)
  | some f =>
    have e1 : bsAt fs n.data.toList = f.bs := by unfold bsAt; rw [hf]
    have e2 : safeAt fs n.data.toList = f.safe := by unfold safeAt; rw [hf]
    simp only [Option.isSome_some, true_and, if_true]
    by_cases hi : 0 ≤ i ∧ i ≤ ((bsAt fs n.data.toList).length : Int)
    · rw [if_pos hi, if_pos hi]
      obtain ⟨L, rfl⟩ := Int.eq_ofNat_of_zero_le hi.1
      rw [e1] at hi ⊢
      refine (cut_yes hd n hn L f hf (by omega)).mono (fun e w' ⟨he, v, hA⟩ => ⟨by rw [he]; rfl, hA.abs' ?_⟩)
      rw [abs_fput, e2, Int.toNat_natCast]
    · rw [if_neg hi, if_neg hi]
      exact (cut_arg hd n hn i (by rw [hf]; rfl) (by omega)).mono (fun e w' ⟨he, hb⟩ => ⟨by rw [he]; rfl, AfterA.same ⟨mo, fs, hd, rfl⟩ hb⟩)

theorem abytes_le : ∀ (l : List AF) (n : List UInt8), (abytes l n).length ≤ totalA l
  | [], n => by simp [abytes, alook]
  | x :: r, n => by
    have ih := abytes_le r n
    unfold abytes alook at ih ⊢
    rw [List.find?_cons]
    cases x.name == n with
    | true => simp [totalA]
    | false => simp only [totalA]; omega
theorem DiskA.small {w : World} {S : Nat → Prop} {a size : Nat} {l : List AF} (h : DiskA w S a size l) (n : List UInt8) : (abytes l n).length ≤ 16777216 := by
  have := abytes_le l n
  have := h.facts
  omega
/-- A segment and its disk, in blocks B. -/
def SD (w : World) (B : Nat → Prop) (q a base : Nat) (name : ByteArray) (m : Mk) (ix : List Mk) (size : Nat) (fs : List AF) : Prop :=
  ∃ U S v, SegM w U q a base name m v ix ∧ DiskA w S a size fs ∧ (∀ k, S k → ¬ U k) ∧ (∀ k, B k ↔ U k ∨ S k)
/-- What a call leaves of both. -/
def SDA (B : Nat → Prop) (w w' : World) (q a base : Nat) (name : ByteArray) (m : Mk) (ix : List Mk) (size : Nat) (fs : List AF) : Prop :=
  ∃ B', SD w' B' q a base name m ix size fs ∧ (∀ k, B' k → B k ∨ w.heap.size ≤ k) ∧ (∀ k, B k → B' k) ∧ Keeps B w w'
theorem SD.below {w : World} {B q a base name m ix size fs} (h : SD w B q a base name m ix size fs) : ∀ k, B k → k < w.heap.size := fun k hk => by
  obtain ⟨U, S, v, h1, h2, h3, h4⟩ := h
  rcases (h4 k).1 hk with h | h
  · exact h1.below k h
  · exact h2.below k h
theorem SD.under {w w1 : World} {B q a base name m ix size fs} (h : SD w B q a base name m ix size fs) (hb : Below w.heap.size w w1) : SD w1 B q a base name m ix size fs := by
  obtain ⟨U, S, v, h1, h2, h3, h4⟩ := h
  exact ⟨U, S, v, h1.under hb, h2.under hb, h3, h4⟩
theorem SDA.same {w w1 : World} {B q a base name m ix size fs} (h : SD w B q a base name m ix size fs) (hb : Below w.heap.size w w1) : SDA B w w1 q a base name m ix size fs :=
  ⟨B, h.under hb, fun k hk => .inl hk, fun k hk => hk, Keeps.of_below hb⟩
theorem SegM.beside {w w1 : World} {U T : Nat → Prop} {q a base name m v ix} (h : SegM w U q a base name m v ix) (hk : Keeps T w w1) (hd : ∀ k, U k → ¬ T k) : SegM w1 U q a base name m v ix :=
  h.kept (fun k hU => hk.block k (h.below k hU) (hd k hU)) hk.size
/-- A call of the disk. -/
theorem SD.onDisk {w w1 w' : World} {U S B : Nat → Prop} {q a base name m v ix size fs fs'} (h1 : SegM w U q a base name m v ix) (h2 : DiskA w S a size fs) (h3 : ∀ k, S k → ¬ U k) (h4 : ∀ k, B k ↔ U k ∨ S k) (hb : Below w.heap.size w w1) (hA : AfterA S w1 w' a size fs') : SDA B w w' q a base name m ix size fs' := by
  obtain ⟨S', g1, g2, g3, g4⟩ := hA
  have hs := hb.size
  refine ⟨fun k => U k ∨ S' k, ⟨U, S', v, (h1.under hb).beside g4 (fun k hU hS => h3 k hS hU), g1, fun k hS hU => ?_, fun k => Iff.rfl⟩, fun k hk => ?_, fun k hk => ?_, ?_⟩
  · rcases g2 k hS with h | h
    · exact h3 k h hU
    · have := h1.below k hU; omega
  · rcases hk with hk | hk
    · exact .inl ((h4 k).2 (.inl hk))
    · rcases g2 k hk with h | h
      · exact .inl ((h4 k).2 (.inr h))
      · exact .inr (by omega)
  · rcases (h4 k).1 hk with h | h
    · exact .inl h
    · exact .inr (g3 k h)
  · exact (Keeps.of_below hb).trans g4 (fun x hx => .inl ((h4 x).2 (.inr hx)))
/-- A call of the segment. -/
theorem SD.onSeg {w w1 w' : World} {U S B : Nat → Prop} {q a base name m v ix size fs m' ix'} (h1 : SegM w U q a base name m v ix) (h2 : DiskA w S a size fs) (h3 : ∀ k, S k → ¬ U k) (h4 : ∀ k, B k ↔ U k ∨ S k) (hb : Below w.heap.size w w1) (hA : SAfter U w1 w' q a base name m' ix') : SDA B w w' q a base name m' ix' size fs := by
  obtain ⟨U', v', g1, g2, g3, g4⟩ := hA
  have hs := hb.size
  refine ⟨fun k => U' k ∨ S k, ⟨U', S, v', g1, (h2.under hb).beside g4 h3, fun k hS hU => ?_, fun k => Iff.rfl⟩, fun k hk => ?_, fun k hk => ?_, ?_⟩
  · rcases g2 k hU with h | h
    · exact h3 k hS h
    · have := h2.below k hS; omega
  · rcases hk with hk | hk
    · rcases g2 k hk with h | h
      · exact .inl ((h4 k).2 (.inl h))
      · exact .inr (by omega)
    · exact .inl ((h4 k).2 (.inr hk))
  · rcases (h4 k).1 hk with h | h
    · exact .inl (g3 k h)
    · exact .inr h
  · exact (Keeps.of_below hb).trans g4 (fun x hx => .inl ((h4 x).2 (.inl hx)))
theorem SDA.trans {w w1 w2 : World} {B q a base name m ix size fs q2 a2 base2 name2 m2 ix2 size2 fs2} (h : SDA B w w1 q a base name m ix size fs) (k : ∀ B', SD w1 B' q a base name m ix size fs → SDA B' w1 w2 q2 a2 base2 name2 m2 ix2 size2 fs2) : SDA B w w2 q2 a2 base2 name2 m2 ix2 size2 fs2 := by
  obtain ⟨B', h1, h2, h3, h4⟩ := h
  obtain ⟨B'', k1, k2, k3, k4⟩ := k B' h1
  have hs := h4.size
  refine ⟨B'', k1, fun x hx => ?_, fun x hx => k3 x (h3 x hx), h4.trans k4 h2⟩
  rcases k2 x hx with h | h
  · exact h2 x h
  · exact .inr (by omega)
end Go.Proofs.Ytlgaianlkbaedaa

