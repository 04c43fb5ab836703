/- What one does: of two disks of one size with the same files it answers true. -/
import Derived.Test.YtpdghpmfacaglaaRun
namespace Go.Proofs.Ytpdghpmfacaglaa
open Go.RowKit Go.Maps Go.Sort
set_option maxRecDepth 100000
set_option linter.unusedSimpArgs false
set_option linter.unusedVariables false

theorem alook_mem : ∀ {l : List AF}, l.Pairwise (fun x y => bytesBefore x.name y.name = true) → ∀ {x : AF}, x ∈ l → alook l x.name = some x
  | [], _, _, h => by cases h
  | y :: r, hp, x, h => by
    have hp' := List.pairwise_cons.1 hp
    unfold alook
    rcases List.mem_cons.1 h with rfl | h
    · simp
    · have hne : (y.name == x.name) = false := by simpa using before_ne (hp'.1 x h)
      rw [List.find?_cons, hne]
      exact alook_mem hp'.2 h

theorem DiskA.at_mem {w : World} {S : Nat → Prop} {a size : Nat} {l : List AF} (h : DiskA w S a size l) {x : AF} (hx : x ∈ l) : abytes l x.name = x.bs ∧ asafe l x.name = x.safe ∧ (alook l x.name).isSome = true ∧ (strOf x.name).size ≤ maxLen ∧ x.bs.length ≤ 16777216 ∧ x.safe ≤ x.bs.length := by
  obtain ⟨f1, f2, f3, f4, f5⟩ := h.facts
  have hl := alook_mem f4 hx
  unfold abytes asafe
  rw [hl]
  refine ⟨rfl, rfl, rfl, (f5 x hx).2, ?_, (f5 x hx).1⟩
  have : ∀ (l : List AF), x ∈ l → x.bs.length ≤ totalA l := by
    intro l
    induction l with
    | nil => intro h; cases h
    | cons y r ih =>
      intro h
      rcases List.mem_cons.1 h with rfl | h
      · simp [totalA]
      · have := ih h; simp only [totalA]; omega
  have := this l hx
  omega

theorem readX {w : World} {S : Nat → Prop} {a size : Nat} {l : List AF} (h : DiskA w S a size l) {x : AF} (hx : x ∈ l) :
    Calls Try.prog 19 #[.pointer (some ⟨a, 0, none⟩), .string (strOf x.name)] w fun e w' => e = .returned (.tuple #[.string (strOf x.bs), .int .i64 0]) ∧ Below w.heap.size w w' := by
  obtain ⟨h1, h2, h3, h4, _⟩ := h.at_mem hx
  have := readA h (strOf x.name) h4
  have e : (strOf x.name).data.toList = x.name := by simp [strOf]
  unfold synE at this
  rw [e, h1, if_pos h3] at this
  exact this

theorem syncedX {w : World} {S : Nat → Prop} {a size : Nat} {l : List AF} (h : DiskA w S a size l) {x : AF} (hx : x ∈ l) :
    Calls Try.prog 20 #[.pointer (some ⟨a, 0, none⟩), .string (strOf x.name)] w fun e w' => e = .returned (.int .i64 (x.safe : Int)) ∧ w' = w := by
  obtain ⟨h1, h2, h3, h4, _⟩ := h.at_mem hx
  have := syncedA h (strOf x.name) h4
  have e : (strOf x.name).data.toList = x.name := by simp [strOf]
  rw [e, h2] at this
  exact this

theorem sizeX {w : World} {S : Nat → Prop} {a size : Nat} {l : List AF} (h : DiskA w S a size l) {x : AF} (hx : x ∈ l) :
    Calls Try.prog 25 #[.pointer (some ⟨a, 0, none⟩), .string (strOf x.name)] w fun e w' => e = .returned (.int .i64 (x.bs.length : Int)) ∧ w' = w := by
  obtain ⟨h1, h2, h3, h4, _⟩ := h.at_mem hx
  have := sizeA h (strOf x.name) h4
  have e : (strOf x.name).data.toList = x.name := by simp [strOf]
  rw [e, h1] at this
  exact this

/-- A row of names. -/
def NamesAt (w : World) (B : Nat) (oa : Option Addr) (l : List AF) : Prop := 0 < l.length → ∃ g, oa = some ⟨g, 0, none⟩ ∧ B ≤ g ∧ g < w.heap.size ∧ ∀ j x, l[j]? = some x → w.cell? ⟨g, j, none⟩ = some (.string (strOf x.name))

theorem namesX {w0 w : World} {S : Nat → Prop} {a size : Nat} {l : List AF} (h : DiskA w S a size l) (hb : Below w0.heap.size w0 w) :
    Calls Try.prog 23 #[.pointer (some ⟨a, 0, none⟩)] w fun e w' => ∃ oa cap, e = .returned (.slice oa l.length cap) ∧ NamesAt w' w.heap.size oa l ∧ Below w.heap.size w w' :=
  (namesA h).mono (fun e w' ⟨oa, cap, he, hn, hb'⟩ => ⟨oa, cap, he, hn, hb'⟩)

set_option maxHeartbeats 800000 in
theorem one_walk (w : World) (a b n : Nat) (l : List AF) (S1 S2 : Nat → Prop) (h1 : DiskA w S1 a n l) (h2 : DiskA w S2 b n l) :
    Calls Try.prog 27 #[.pointer (some ⟨a, 0, none⟩), .pointer (some ⟨b, 0, none⟩)] w fun e w' => e = .returned (.bool true) ∧ Below w.heap.size w w' := by
  have hl256 := h1.facts.2.2.1
  have H1 : Hid (∀ W, Below w.heap.size w W → DiskA W S1 a n l) := fun W hW => h1.under hW
  have H2 : Hid (∀ W, Below w.heap.size w W → DiskA W S2 b n l) := fun W hW => h2.under hW
  clear h1 h2
  go_enter Try.func27, Try.ntmps27
  go_wp2_with (go_at_call_of 23 (Value.pointer (some ⟨a, 0, none⟩)); refine (namesX (H1.out _ (Below.refl _ _)) (Below.refl _ _)).mono ?_; rintro e w1 ⟨oa1, ca1, rfl, hn1, hb1⟩)
  have HN1 : Hid (NamesAt w1 w.heap.size oa1 l) := hn1
  clear hn1
  go_wp2_with (go_at_call 23; refine (namesX (H2.out _ hb1) (Below.refl _ _)).mono ?_; rintro e w2 ⟨oa2, ca2, rfl, hn2, hb2⟩)
  have HN2 : Hid (NamesAt w2 w1.heap.size oa2 l) := hn2
  have hb2' : Below w.heap.size w w2 := hb1.trans (hb2.mono hb1.size)
  clear hn2
  go_wp2_with (go_at_call_of 21 (Value.pointer (some ⟨a, 0, none⟩)); refine (freeA (H1.out _ hb2')).mono ?_; rintro e w3 ⟨rfl, hb3⟩)
  have hb3' : Below w.heap.size w w3 := hb2'.trans (hb3.mono hb2'.size)
  go_wp2_with (go_at_call 21; refine (freeA (H2.out _ hb3')).mono ?_; rintro e w4 ⟨rfl, hb4⟩)
  have hb4' : Below w.heap.size w w4 := hb3'.trans (hb4.mono hb3'.size)
  have hbA : Below w1.heap.size w1 w4 := (hb2.trans (hb3.mono hb2.size)).trans (hb4.mono (Nat.le_trans hb2.size hb3.size))
  have hbB : Below w2.heap.size w2 w4 := hb3.trans (hb4.mono hb3.size)
  clear hb1 hb2 hb3 hb4 hb2' hb3'
  by_cases h0 : l = []
  · subst h0
    refine wp_loop_rounds 1 ?_
    rw [rounds_succ]
    go_wp2
    go_ret
    exact ⟨rfl, hb4'⟩
  · have hpos : 0 < l.length := List.length_pos_iff.2 h0
    obtain ⟨g1, e1, hg1, hg1', hc1⟩ := HN1.out hpos
    obtain ⟨g2, e2, hg2, hg2', hc2⟩ := HN2.out hpos
    subst e1 e2
    have HC1 : Hid (∀ j x, l[j]? = some x → w1.cell? ⟨g1, j, none⟩ = some (.string (strOf x.name))) := hc1
    have HC2 : Hid (∀ j x, l[j]? = some x → w2.cell? ⟨g2, j, none⟩ = some (.string (strOf x.name))) := hc2
    clear hc1 hc2 HN1 HN2 h0
    go_loopw [7] (fun i0 wr => ∃ k : Nat, k ≤ l.length ∧ i0 = .int .i64 (k : Int) ∧ Hid (Below w4.heap.size w4 wr)) (fun i0 _ => l.length - (intOf i0).toNat)
    case atStart => exact ⟨0, Nat.zero_le _, rfl, Below.refl _ _⟩
    case round =>
      obtain ⟨k, hkl, rfl, hI⟩ := hrel
      by_cases hlt : k < l.length
      · have hxk : l[k]? = some l[k] := List.getElem?_eq_getElem hlt
        have hmem : l[k] ∈ l := List.getElem_mem _
        have Hc1 : Hid (∀ W, Below w4.heap.size w4 W → W.cell? ⟨g1, k, none⟩ = some (.string (strOf l[k].name))) := fun W hW =>
          (hW.cell (p := ⟨g1, k, none⟩) (Nat.lt_of_lt_of_le hg1' hbA.size)).trans ((hbA.cell (p := ⟨g1, k, none⟩) hg1').trans (HC1.out k _ hxk))
        have Hc2 : Hid (∀ W, Below w4.heap.size w4 W → W.cell? ⟨g2, k, none⟩ = some (.string (strOf l[k].name))) := fun W hW =>
          (hW.cell (p := ⟨g2, k, none⟩) (Nat.lt_of_lt_of_le hg2' hbB.size)).trans ((hbB.cell (p := ⟨g2, k, none⟩) hg2').trans (HC2.out k _ hxk))
        have HB : Hid (∀ W, Below w4.heap.size w4 W → Below w.heap.size w W) := fun W hW => hb4'.trans (hW.mono hb4'.size)
        generalize l[k] = x at *
        have HMem : Hid (x ∈ l) := hmem
        have hk' : (k : Int) < (l.length : Int) := by omega
        have p1 := Hc1.out _ hI.out
        have p2 := Hc2.out _ hI.out
        clear hxk hmem
        go_wp2_with (go_at_call_of 19 (Value.pointer (some ⟨a, 0, none⟩)); refine (readX (H1.out _ (HB.out _ hI.out)) HMem.out).mono ?_; rintro e w5 ⟨rfl, hb5⟩; have hb5' : Below w4.heap.size w4 w5 := hI.out.trans (hb5.mono hI.out.size); have p3 := Hc1.out _ hb5'; have p4 := Hc2.out _ hb5')
        go_wp2_with (go_at_call 19; refine (readX (H2.out _ (HB.out _ hb5')) HMem.out).mono ?_; rintro e w6 ⟨rfl, hb6⟩; have hb6' : Below w4.heap.size w4 w6 := hb5'.trans (hb6.mono hb5'.size); have p5 := Hc1.out _ hb6'; have p6 := Hc2.out _ hb6')
        go_quiet ((first
          | (go_at_call_of 20 (Value.pointer (some ⟨a, 0, none⟩)); exact Calls.quiet_of_same (syncedX (H1.out _ (HB.out _ (by exact ⟨hb6'.os, hb6'.tape, hb6'.output, hb6'.size, hb6'.block⟩))) HMem.out))
          | (go_at_call_of 20 (Value.pointer (some ⟨b, 0, none⟩)); exact Calls.quiet_of_same (syncedX (H2.out _ (HB.out _ (by exact ⟨hb6'.os, hb6'.tape, hb6'.output, hb6'.size, hb6'.block⟩))) HMem.out))))
        go_wp2
        go_roundw
        case rel => exact ⟨k + 1, by omega, by go_num, below_drewN hb6' _⟩
        case measure => simp [intOf]; omega
      · go_wp2
        go_ret
        exact ⟨rfl, hb4'.trans (hI.out.mono hb4'.size)⟩
end Go.Proofs.Ytpdghpmfacaglaa
