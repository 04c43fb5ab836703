/- What a member owns. -/
import Derived.Test.YtdnpbhijjmlecaaG7
namespace Go.Proofs.Ytdnpbhijjmlecaa
open Go.RowKit Go.Maps
set_option maxRecDepth 100000
set_option linter.unusedSimpArgs false
set_option linter.unusedVariables false

theorem bcell {W w1 : World} (hb : Below W.heap.size W w1) : (∀ b o, b < W.heap.size → w1.cell? ⟨b, o, none⟩ = W.cell? ⟨b, o, none⟩) ∧ (∀ b o, b < W.heap.size → w1.frozen? ⟨b, o, none⟩ = W.frozen? ⟨b, o, none⟩) :=
  ⟨fun b o h => hb.cell (p := ⟨b, o, none⟩) h, fun b o h => hb.frozen (p := ⟨b, o, none⟩) h⟩
/-- The cell p of the row that Assign made at W. -/
def PCell (W w' : World) (l : List Int) (K p : Nat) (v : Value) : Prop := w'.cell? ⟨W.heap.size, p, none⟩ = some v ∧ IL w' v (shareL l K p) ∧ In (fun b => W.heap.size + 1 ≤ b) v (shareL l K p) ∧ W.heap.size < w'.heap.size
theorem PCell.under {W w' w2 : World} {l : List Int} {K p : Nat} {v : Value} (h : PCell W w' l K p v) (hb : Below w'.heap.size w' w2) : PCell W w2 l K p v :=
  ⟨kept_cell hb h.1, h.2.1.under hb, h.2.2.1, Nat.lt_of_lt_of_le h.2.2.2 hb.size⟩
set_option maxHeartbeats 3200000 in
theorem partsOf_any {w : World} {q : Nat} {vm vp vo : Value} {x : Gr} (h : GrR w q vm vp vo x) (hf : x.mem.length ≤ 1000) (h64 : ∀ m ∈ x.mem, I64 m.id) (id : Int) (hid' : hasM x id = true) : Calls Try.prog 49 #[.pointer (some ⟨q, 0, none⟩), .int .i64 id] w fun e w' => ∃ v', e = .returned v' ∧ IL w' v' (partsOf x id) ∧ In (fun b => w.heap.size ≤ b) v' (partsOf x id) ∧ Below w.heap.size w w' := by
  have hlen : (idsL x).length = x.mem.length := by simp [idsL]
  have HID : Hid (∀ W, Below w.heap.size w W → Calls Try.prog 37 #[.pointer (some ⟨q, 0, none⟩)] W fun e w' => ∃ a c, e = .returned (.slice a x.mem.length c) ∧ IL w' (.slice a x.mem.length c) (idsL x) ∧ Below W.heap.size W w') := fun W hW => (ids_any (h.under hW) hf h64).mono (by
    rintro e w1 ⟨v1, rfl, h1, h2, hb1⟩
    obtain ⟨a1, c1, rfl⟩ : ∃ a c, v1 = .slice a (idsL x).length c := by obtain ⟨⟨a, cap, e, _⟩, _⟩ := h1; exact ⟨_, _, e⟩
    rw [hlen] at h1 ⊢
    exact ⟨a1, c1, rfl, h1, hb1⟩)
  obtain ⟨p, hp, hpl, HP⟩ : ∃ p : Nat, p < x.mem.length ∧ placeI x.mem id = p ∧ partsOf x id = shareL x.parts x.mem.length p := by
    unfold hasM at hid'
    obtain ⟨p, hp⟩ := Option.isSome_iff_exists.1 hid'
    obtain ⟨m, _, _, hl⟩ := place_some hp
    exact ⟨p, hl, by unfold placeI; rw [hp], by unfold partsOf; rw [hp]; rfl⟩
  have HPL : Hid (∀ W, Below w.heap.size w W → Calls Try.prog 59 #[.pointer (some ⟨q, 0, none⟩), .int .i64 id] W fun e w' => e = .returned (.int .i64 (p : Int)) ∧ Below W.heap.size W w') := fun W hW => by rw [← hpl]; exact place_any (h.under hW) hf id
  obtain ⟨pa, pc, rfl⟩ : ∃ a c, vp = .slice a x.parts.length c := by obtain ⟨⟨a, cap, e, _⟩, _⟩ := h.parts; exact ⟨_, _, e⟩
  have HAS : Hid (∀ W a c, IL W (.slice a x.mem.length c) (idsL x) → Below w.heap.size w W → Calls Try.prog 15 #[.slice a x.mem.length c, .slice pa x.parts.length pc] W fun e w' => e = .returned (.slice (some ⟨W.heap.size, 0, none⟩) x.mem.length x.mem.length) ∧ (∃ oa n c, PCell W w' x.parts x.mem.length p (.slice oa n c)) ∧ Below W.heap.size W w') := fun W a c hi hW => by
    have := assign_any hi (h.under hW).parts (by omega)
    rw [hlen] at this
    refine this.mono ?_
    rintro e w1 ⟨rfl, hai⟩
    obtain ⟨v, g1, g2, g3⟩ := hai.cell p hp
    obtain ⟨oa, n, c, rfl⟩ : ∃ a n c, v = .slice a n c := by obtain ⟨⟨a, cap, e, _⟩, _⟩ := g2; exact ⟨_, _, _, e⟩
    refine ⟨rfl, ⟨oa, n, c, g1, g2, g3, ?_⟩, hai.below⟩
    obtain ⟨ds, d1, d2, _⟩ := hai
    exact (Array.getElem?_eq_some_iff.1 d2).1
  have c3 := h.c3
  have hq := h.lt
  have hB0 : Below w.heap.size w w := Below.refl _ _
  rw [HP]
  have hp' : (p : Int) < (x.mem.length : Int) := by omega
  have hp0 : (0 : Int) ≤ (p : Int) := by omega
  have hK : (x.mem.length : Int) ≤ 1000 := by omega
  clear h h64 hid' hlen hpl HP hp hf
  generalize x.mem.length = K at *
  go_enter Try.func49, Try.ntmps49
  go_wp2_with fail
  go_region_with
    (first
      | (go_at_call 37; refine (HID.out _ (by first | assumption | exact Below.refl _ _ | exact Below.drew (Below.refl _ _) : Below w.heap.size w _)).mono ?_; rintro e w1 ⟨a1, c1, rfl, h1, hb1⟩; have H1 := hid h1; have hB1 := (by first | assumption | exact Below.refl _ _ | exact Below.drew (Below.refl _ _) : Below w.heap.size w _).trans (hb1.mono (by first | assumption | exact Below.refl _ _ | exact Below.drew (Below.refl _ _) : Below w.heap.size w _).size); have hk1 := kept_cell hb1 (by assumption : World.cell? _ ⟨q, 3, none⟩ = some (.slice pa x.parts.length pc)); clear h1)
      | (go_at_call 59; refine (HPL.out _ (by first | assumption | exact Below.refl _ _ | exact Below.drew (Below.refl _ _) : Below w.heap.size w _)).mono ?_; rintro e w2 ⟨rfl, hb2⟩; have hB2 := (by first | assumption | exact Below.refl _ _ | exact Below.drew (Below.refl _ _) : Below w.heap.size w _).trans (hb2.mono (by first | assumption | exact Below.refl _ _ | exact Below.drew (Below.refl _ _) : Below w.heap.size w _).size); have hk2 := kept_cell hb2 (by assumption : World.cell? _ ⟨q, 3, none⟩ = some (.slice pa x.parts.length pc)); first | (have H1b := hid (H1.out.under hb2)) | skip; first | (have HPC2 := hid (HPC.out.under hb2); have hpc2 := HPC2.out.1) | skip)
      | (go_at_call 15; refine (HAS.out _ _ _ (by first | exact H1.out | exact H1b.out | fail) (by first | assumption | exact Below.refl _ _ | exact Below.drew (Below.refl _ _) : Below w.heap.size w _)).mono ?_; rintro e w3 ⟨rfl, ⟨oa, n3, c4, hpc⟩, hb3⟩; have hB3 := (by first | assumption | exact Below.refl _ _ | exact Below.drew (Below.refl _ _) : Below w.heap.size w _).trans (hb3.mono (by first | assumption | exact Below.refl _ _ | exact Below.drew (Below.refl _ _) : Below w.heap.size w _).size); have hk3 := kept_cell hb3 (by assumption : World.cell? _ ⟨q, 3, none⟩ = some (.slice pa x.parts.length pc)); have HPC := hid hpc; have hpc1 := hpc.1; clear hpc)
      | fail)
  all_goals
    go_wp2_with fail
    go_ret
    first
      | exact ⟨_, rfl, HPC2.out.2.1, HPC2.out.2.2.1.mono (fun b hb => by have := hB1.size; omega), hB2⟩
      | exact ⟨_, rfl, HPC.out.2.1, HPC.out.2.2.1.mono (fun b hb => by have := hB2.size; omega), hB3⟩
      | exact ⟨_, rfl, HPC.out.2.1, HPC.out.2.2.1.mono (fun b hb => by have := hB1.size; omega), hB3⟩
end Go.Proofs.Ytdnpbhijjmlecaa
