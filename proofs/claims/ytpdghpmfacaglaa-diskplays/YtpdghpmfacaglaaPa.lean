/- Both disks side by side. -/
import Derived.Test.YtpdghpmfacaglaaRn6
import Derived.Test.YtpdghpmfacaglaaOne
import Derived.Deep.RegionHeld
namespace Go.Proofs.Ytpdghpmfacaglaa
open Go.RowKit Go.Maps Go.Sort
set_option maxRecDepth 100000
set_option linter.unusedSimpArgs false
set_option linter.unusedVariables false

/-- The blocks F are as in W. -/
structure Frm (F : Nat → Prop) (W w : World) : Prop where
  os : w.os = W.os
  tape : w.tape = W.tape
  output : w.output = W.output
  size : W.heap.size ≤ w.heap.size
  low : ∀ k, F k → k < W.heap.size
  block : ∀ k, F k → w.heap[k]? = W.heap[k]?
theorem Frm.keeps {F : Nat → Prop} {W w w1 : World} {S : Nat → Prop} (h : Frm F W w) (hk : Keeps S w w1) (hS : ∀ k, S k → ¬ F k) : Frm F W w1 :=
  ⟨hk.os.trans h.os, hk.tape.trans h.tape, hk.output.trans h.output, Nat.le_trans h.size hk.size, h.low, fun k hF => (hk.block k (Nat.lt_of_lt_of_le (h.low k hF) h.size) (fun hs => hS k hs hF)).trans (h.block k hF)⟩
theorem Frm.cell {F : Nat → Prop} {W w : World} {q j : Nat} {u : Value} (h : Frm F W w) (hq : F q) (hc : W.cell? ⟨q, j, none⟩ = some u) : w.cell? ⟨q, j, none⟩ = some u :=
  (World.cell?_of_block (a := ⟨q, j, none⟩) (h.block q hq)).trans hc
/-- The program's disk with files lp, the document's with lr. -/
def Two (F : Nat → Prop) (W w : World) (a r size : Nat) (lp lr : List AF) : Prop :=
  ∃ S T v, DiskA w S a size lp ∧ RefM w T r size v lr ∧ (∀ k, S k → ¬ T k) ∧ (∀ k, S k → ¬ F k) ∧ (∀ k, T k → ¬ F k) ∧ Frm F W w
theorem Two.frm {F W w a r size lp lr} (h : Two F W w a r size lp lr) : Frm F W w := by
  obtain ⟨S, T, v, _, _, _, _, _, h⟩ := h
  exact h
theorem Two.lok {F W w a r size lp lr} (h : Two F W w a r size lp lr) : LOk size lp := by
  obtain ⟨S, T, v, h, _⟩ := h
  exact h.lok
theorem Two.under {F W w w1 a r size lp lr} (h : Two F W w a r size lp lr) (hb : Below w.heap.size w w1) : Two F W w1 a r size lp lr := by
  obtain ⟨S, T, v, h1, h2, h3, h4, h5, h6⟩ := h
  exact ⟨S, T, v, h1.under hb, h2.under hb, h3, h4, h5, h6.keeps (Keeps.of_below (S := fun _ => False) hb) (fun k h => by cases h)⟩
theorem Two.drewN {F W w a r size lp lr} (h : Two F W w a r size lp lr) (n : Nat) : Two F W (w.drewN n) a r size lp lr := h.under (below_drewN (Below.refl _ _) n)
theorem Two.drew {F W w a r size lp lr} (h : Two F W w a r size lp lr) : Two F W w.drew a r size lp lr := h.drewN 1
/-- A call of the program's disk. -/
theorem Two.p {F W w a r size lp lr} (h : Two F W w a r size lp lr) {fn : Nat} {args : Array Value} {E : Ending} {lp' : List AF} (f : ∀ S, DiskA w S a size lp → Calls Try.prog fn args w fun e w' => e = E ∧ AfterA S w w' a size lp') :
    Calls Try.prog fn args w fun e w' => e = E ∧ Two F W w' a r size lp' lr := by
  obtain ⟨S, T, v, h1, h2, h3, h4, h5, h6⟩ := h
  refine (f S h1).mono ?_
  rintro e w1 ⟨he, S', hd, s1, s2, hk⟩
  refine ⟨he, S', T, v, hd, h2.kept (fun k hT => hk.block k (h2.below k hT) (fun hS => h3 k hS hT)) hk.size, fun k hS hT => ?_, fun k hS hF => ?_, h5, h6.keeps hk h4⟩
  · rcases s1 k hS with h | h
    · exact h3 k h hT
    · have := h2.below k hT; omega
  · rcases s1 k hS with h | h
    · exact h4 k h hF
    · have := h6.low k hF; have := h6.size; omega
/-- A call of the document's. -/
theorem Two.q {F W w a r size lp lr} (h : Two F W w a r size lp lr) {fn : Nat} {args : Array Value} {E : Ending} {lr' : List AF} (f : ∀ T v, RefM w T r size v lr → Calls Try.prog fn args w fun e w' => e = E ∧ RAfter T w w' r size lr') :
    Calls Try.prog fn args w fun e w' => e = E ∧ Two F W w' a r size lp lr' := by
  obtain ⟨S, T, v, h1, h2, h3, h4, h5, h6⟩ := h
  refine (f T v h2).mono ?_
  rintro e w1 ⟨he, T', v', hd, s1, s2, hk⟩
  refine ⟨he, S, T', v', h1.beside hk h3, hd, fun k hS hT => ?_, h4, fun k hT hF => ?_, h6.keeps hk h5⟩
  · rcases s1 k hT with h | h
    · exact h3 k hS h
    · have := h1.below k hS; omega
  · rcases s1 k hT with h | h
    · exact h5 k h hF
    · have := h6.low k hF; have := h6.size; omega
/-- One block more is held. -/
theorem Two.hold {F W w a r size lp lr} (h : Two F W w a r size lp lr) (O : Obj) : Two (fun k => F k ∨ k = w.heap.size) (w.alloc O) (w.alloc O) a r size lp lr := by
  obtain ⟨S, T, v, h1, h2, h3, h4, h5, h6⟩ := h
  have hb : Below w.heap.size w (w.alloc O) := (Below.refl _ _).alloc (Nat.le_refl _) O
  refine ⟨S, T, v, h1.under hb, h2.under hb, h3, fun k hS hF => ?_, fun k hT hF => ?_, rfl, rfl, rfl, Nat.le_refl _, fun k hF => ?_, fun _ _ => rfl⟩
  · rcases hF with hF | hF
    · exact h4 k hS hF
    · have := h1.below k hS; omega
  · rcases hF with hF | hF
    · exact h5 k hT hF
    · have := h2.below k hT; omega
  · rcases hF with hF | hF
    · have := h6.low k hF; have := h6.size; simp; omega
    · subst hF; simp
theorem Two.release {F W w w1 a r size lp lr lp' lr'} {O : Obj} (h : Two F W w a r size lp lr) (h1 : Two (fun k => F k ∨ k = w.heap.size) (w.alloc O) w1 a r size lp' lr') : Two F W w1 a r size lp' lr' := by
  have hf := h.frm
  obtain ⟨S, T, v, g1, g2, g3, g4, g5, g6⟩ := h1
  refine ⟨S, T, v, g1, g2, g3, fun k hS hF => g4 k hS (.inl hF), fun k hT hF => g5 k hT (.inl hF), g6.os.trans hf.os, g6.tape.trans hf.tape, g6.output.trans hf.output, ?_, hf.low, fun k hF => ?_⟩
  · have := g6.size
    simp at this
    have := hf.size
    omega
  · rw [g6.block k (.inl hF), Below.heap_alloc w O k (Nat.lt_of_lt_of_le (hf.low k hF) hf.size)]
    exact hf.block k hF

set_option maxHeartbeats 3200000 in
theorem alike_walk (w : World) (a r n : Nat) (l : List AF) (S T : Nat → Prop) (v : Value) (h1 : DiskA w S a n l) (h2 : RefM w T r n v l) :
    Calls Try.prog 13 #[.pointer (some ⟨a, 0, none⟩), .pointer (some ⟨r, 0, none⟩)] w fun e w' => e = .returned (.bool true) ∧ Below w.heap.size w w' := by
  have hk := h1.lok
  have hl256 := hk.len
  obtain ⟨oa2, cap2, rfl, hcap2, hcm2, hoa2, _⟩ := h2.shape
  have H1 : Hid (∀ W, Below w.heap.size w W → DiskA W S a n l) := fun W hW => h1.under hW
  have H2 : Hid (∀ W, Below w.heap.size w W → RefM W T r n (.slice oa2 l.length cap2) l) := fun W hW => h2.under hW
  have HK := hid hk
  clear h1 h2 hk
  go_enter Try.func13, Try.ntmps13
  go_wp2_with (go_at_call 23; refine (namesX (H1.out _ (Below.refl _ _)) (Below.refl _ _)).mono ?_; rintro e w1 ⟨oa1, ca1, rfl, hn1, hb1⟩; have HN1 := hid hn1; have HB1 := hid hb1; clear hn1 hb1; have cc1 := (H2.out w1 HB1.out).c1)
  refine (freeA (H1.out _ HB1.out)).mono ?_
  rintro e w3 ⟨rfl, hb3⟩
  have HB3 := hid (HB1.out.trans (hb3.mono HB1.out.size))
  have HB13 := hid hb3
  clear hb3
  go_wp2_with fail
  refine (rfree_any (H2.out _ HB3.out) (by omega) HK.out.total HK.out.big).mono ?_
  rintro e w4 ⟨rfl, h⟩
  have h' := h.symm
  subst h'
  clear h cc1
  generalize (n - totalA l : Nat) = fr at *
  go_wp2_with fail
  by_cases h0 : l = []
  · subst h0
    refine wp_loop_rounds 1 ?_
    rw [rounds_succ]
    go_wp2
    go_ret
    exact ⟨rfl, HB3.out⟩
  · have hpos : 0 < l.length := List.length_pos_iff.2 h0
    obtain ⟨g1, e1, hg1, hg1', hc1⟩ := HN1.out hpos
    obtain ⟨g2, e2⟩ := hoa2 hpos
    subst e1 e2
    have HC1 := hid hc1
    clear hc1 HN1 h0 hoa2
    go_loopg [6] l.length (fun kx s6 wr => ∃ k : Nat, k ≤ l.length ∧ l.length - k ≤ kx ∧ s6 = .int .i64 (k : Int) ∧ Hid (Below w3.heap.size w3 wr))
    case atStart => exact ⟨0, Nat.zero_le _, by omega, rfl, Below.refl _ _⟩
    case round =>
      obtain ⟨k, hkl, hkx, rfl, HI⟩ := hrel
      by_cases hlt : k < l.length
      case neg =>
        have hk' : ¬ (k : Int) < (l.length : Int) := by omega
        go_wp2_with fail
        go_ret
        exact ⟨rfl, HB3.out.trans (HI.out.mono HB3.out.size)⟩
      have hk' : (k : Int) < (l.length : Int) := by omega
      have hxk : l[k]? = some l[k] := List.getElem?_eq_getElem hlt
      have hmem : l[k] ∈ l := List.getElem_mem _
      have Hc1 : Hid (∀ W, Below w3.heap.size w3 W → W.cell? ⟨g1, k, none⟩ = some (.string (strOf l[k].name))) := fun W hW =>
        (hW.cell (p := ⟨g1, k, none⟩) (Nat.lt_of_lt_of_le hg1' HB13.out.size)).trans ((HB13.out.cell (p := ⟨g1, k, none⟩) hg1').trans (HC1.out k _ hxk))
      have Hc2 : Hid (∀ W, Below w3.heap.size w3 W → (W.cell? ⟨g2, k * 3, none⟩ = some (.string (strOf l[k].name)) ∧ W.cell? ⟨g2, k * 3 + 1, none⟩ = some (.string (strOf l[k].bs)) ∧ W.cell? ⟨g2, k * 3 + 2, none⟩ = some (.int .i64 (l[k].safe : Int))) ∧ W.cell? ⟨r, 1, none⟩ = some (.slice (some ⟨g2, 0, none⟩) l.length cap2)) := fun W hW =>
        ⟨(H2.out W (HB3.out.trans (hW.mono HB3.out.size))).at_ k _ hxk, (H2.out W (HB3.out.trans (hW.mono HB3.out.size))).c1⟩
      have HB : Hid (∀ W, Below w3.heap.size w3 W → Below w.heap.size w W) := fun W hW => HB3.out.trans (hW.mono HB3.out.size)
      generalize l[k] = x at *
      have HMem : Hid (x ∈ l) := hmem
      have hsz := strOf_sz x.bs
      obtain ⟨⟨q0, q1, q2⟩, qr⟩ := Hc2.out _ HI.out
      have p1 := Hc1.out _ HI.out
      clear hxk hmem
      have HA : Hid (Below w3.heap.size w3 (wr.alloc (.cells #[.string (strOf x.name), .string (strOf x.bs), .int .i64 (x.safe : Int)] 62))) := HI.out.alloc HI.out.size _
      have HX := hid (heap_alloc_new wr (.cells #[.string (strOf x.name), .string (strOf x.bs), .int .i64 (x.safe : Int)] 62))
      have hsw : wr.heap.size < (wr.alloc (.cells #[.string (strOf x.name), .string (strOf x.bs), .int .i64 (x.safe : Int)] 62)).heap.size := by simp
      go_wp2_with fail
      refine (readX (H1.out _ (HB.out _ HA.out)) HMem.out).mono ?_
      rintro e w5 ⟨rfl, hb5⟩
      have H5 := hid (HA.out.trans (hb5.mono HA.out.size))
      have HX5 := hid ((hb5.block _ hsw).trans HX.out)
      clear hb5 q0 q1 q2 qr p1
      have b0 : w5.cell? ⟨wr.heap.size, 0, none⟩ = some (.string (strOf x.name)) := by simp [World.cell?, HX5.out]
      have b1 : w5.cell? ⟨wr.heap.size, 1, none⟩ = some (.string (strOf x.bs)) := by simp [World.cell?, HX5.out]
      have b2 : w5.cell? ⟨wr.heap.size, 2, none⟩ = some (.int .i64 (x.safe : Int)) := by simp [World.cell?, HX5.out]
      have p5 := Hc1.out _ H5.out
      have HS : Hid (∀ m, Calls Try.prog 25 #[.pointer (some ⟨a, 0, none⟩), .string (strOf x.name)] (w5.drewN m) fun e w' => e = .returned (.int .i64 (x.bs.length : Int)) ∧ w' = w5.drewN m) := fun m => sizeX (H1.out _ (HB.out _ (below_drewN H5.out m))) HMem.out
      have HY : Hid (∀ m, Calls Try.prog 20 #[.pointer (some ⟨a, 0, none⟩), .string (strOf x.name)] (w5.drewN m) fun e w' => e = .returned (.int .i64 (x.safe : Int)) ∧ w' = w5.drewN m) := fun m => syncedX (H1.out _ (HB.out _ (below_drewN H5.out m))) HMem.out
      clear HX HX5 HA hsw
      go_wp2_with fail
      go_quiet ((first
        | (go_at_call 25; exact (HS.out _).mono fun e w' h => ⟨h.1, _, h.2⟩)
        | (go_at_call 20; exact (HY.out _).mono fun e w' h => ⟨h.1, _, h.2⟩)))
      go_wp2_with fail
      go_roundg (l.length - (k + 1))
      case measure => omega
      case rel => exact ⟨k + 1, by omega, Nat.le_refl _, by go_num, below_drewN H5.out _⟩
theorem Two.alike {F W w a r size l} (h : Two F W w a r size l l) : Calls Try.prog 13 #[.pointer (some ⟨a, 0, none⟩), .pointer (some ⟨r, 0, none⟩)] w fun e w' => e = .returned (.bool true) ∧ Two F W w' a r size l l := by
  obtain ⟨S, T, v, h1, h2, h3⟩ := h
  exact (alike_walk w a r size l S T v h1 h2).mono fun e w' ⟨he, hb⟩ => ⟨he, Two.under ⟨S, T, v, h1, h2, h3⟩ hb⟩
end Go.Proofs.Ytpdghpmfacaglaa
