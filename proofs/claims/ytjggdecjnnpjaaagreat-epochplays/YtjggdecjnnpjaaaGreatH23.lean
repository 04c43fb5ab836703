/- The document's All, Open. -/
import Derived.Test.YtjggdecjnnpjaaaGreatH18
import Derived.Test.YtjggdecjnnpjaaaGreatH21
import Derived.Test.YtjggdecjnnpjaaaGreatH22
import Derived.Test.YtjggdecjnnpjaaaGreatH13
namespace Go.Proofs.YtjggdecjnnpjaaaGreat
open Go.RowKit Go.Maps Go.Sort
set_option maxRecDepth 100000
set_option linter.unusedSimpArgs false
set_option linter.unusedVariables false
theorem made0 (w : World) : (w.alloc (.cells #[] 51)).ownsRow w.heap.size 51 3 (.slice (some ⟨w.heap.size, 0, none⟩) 0 0) 0 [] := World.ownsRow_made w #[] 0 (Nat.le_refl _) (by decide) rfl

set_option maxHeartbeats 1600000 in
theorem rall_any {w : World} {U q r name v} {l : List (Int × Int)} (h : RC w U q r name v l) (hlen : l.length ≤ 200) :
    Calls Tryz.prog 22 #[.pointer (some ⟨q, 0, none⟩)] w fun e w' => ∃ rv, e = .returned rv ∧ w'.ownsRow w.heap.size 51 3 rv l.length (flatA l) ∧ Below w.heap.size w w' := by
  obtain ⟨i0, hi0, hz0, hz1, hz2⟩ := info51
  have HC := hid h.ents
  obtain ⟨oa, cap, rfl, hoa⟩ := h.ents.shape
  have hB : Hid (Below w.heap.size w (w.alloc (.cells #[] 51))) := (Below.refl _ _).alloc (Nat.le_refl _) _
  obtain ⟨k0, k1, k2⟩ := (h.under hB.out).c
  clear h k0 k1
  cases oa with
  | none =>
    have hl0 : l = [] := by
      cases l with
      | nil => rfl
      | cons x r => obtain ⟨g, e⟩ := hoa (by simp); cases e
    subst hl0
    go_enter Tryz.func22, Tryz.ntmps22
    go_wp2_with fail
    go_ret
    exact ⟨_, rfl, made0 w, hB.out⟩
  | some ad =>
    have HN : Hid (∀ j u, (flatA l)[j]? = some u → (w.alloc (.cells #[] 51)).cell? (ad.add j) = some u) := by
      intro j u hu
      have hpos : 0 < l.length := by
        have := (List.getElem?_eq_some_iff.1 hu).1
        rw [flatA_length] at this
        omega
      obtain ⟨g, e⟩ := hoa hpos
      cases e
      exact (HC.out.under hB.out).cells j u hu
    have HG : Hid (∀ v' w2, w2.ownsRow w.heap.size 51 3 v' (0 + l.length) ([] ++ flatA l) → (w.alloc (.cells #[] 51)).grownBy w2 (Value.slice (some ⟨w.heap.size, 0, none⟩) 0 0).ownBlock → w2.ownsRow w.heap.size 51 3 v' l.length (flatA l) ∧ Below w.heap.size w w2) := fun v' w2 ho hg => by
      rw [Nat.zero_add] at ho
      exact ⟨ho, hB.out.grown hg hB.out.size (fun j hj => by cases hj; exact Nat.le_refl _)⟩
    go_enter Tryz.func22, Tryz.ntmps22
    go_wp2_with (at_builtin; go_loud (refine wpList_append_own_at _ rfl _ _ 44 rfl w.heap.size 51 i0 _ 3 32 Tryz.underlying44 hi0 hz0 hz1 hz2 rfl (by decide) _ 0 [] rfl (made0 w) ad l.length cap (flatA l) rfl (flatA_length l) HN.out (flatA_one l) (by unfold maxLen; omega) (by omega) (by simp) ?_; intro v' w2 hown2 hg2 _ hat))
    go_ret
    exact ⟨_, rfl, HG.out _ _ hown2 hg2⟩

/-- What Open answers where the file is right, or is not there. -/
def ROpen (w : World) (T : Nat → Prop) (r : Nat) (name : ByteArray) (l : List (Int × Int)) (size : Nat) (fs : List AF) (e : Ending) (w' : World) : Prop :=
  ∃ q, e = .returned (.tuple #[.pointer (some ⟨q, 0, none⟩), .int .i64 0]) ∧ (∃ B, RD w' B q r name l size fs ∧ (∀ k, B k → T k ∨ w.heap.size ≤ k) ∧ (∀ k, T k → B k)) ∧ Below w.heap.size w w'
theorem ropen_box {w W : World} {T : Nat → Prop} {r size : Nat} {dv : Value} {fs : List AF} (h : RefM w T r size dv fs) (hb : Below w.heap.size w W) (name : ByteArray) {v : Value} {l : List (Int × Int)} (ha : AL W v l) (hf : ∀ k, v.ownBlock = some k → w.heap.size ≤ k ∧ k < W.heap.size) :
    ROpen w T r name l size fs (.returned (.tuple #[.pointer (some ⟨W.heap.size, 0, none⟩), .int .i64 0])) (W.alloc (.cells #[.pointer (some ⟨r, 0, none⟩), .string name, v] 60)) := by
  have hs := hb.size
  have hb1 := (Below.refl W.heap.size W).alloc (Nat.le_refl _) (.cells #[.pointer (some ⟨r, 0, none⟩), .string name, v] 60)
  have hb2 := hb.alloc hs (.cells #[.pointer (some ⟨r, 0, none⟩), .string name, v] 60)
  have hz : (W.alloc (.cells #[.pointer (some ⟨r, 0, none⟩), .string name, v] 60)).heap.size = W.heap.size + 1 := by simp
  have hT := h.below
  refine ⟨_, rfl, ⟨fun k => (k = W.heap.size ∨ v.ownBlock = some k) ∨ T k, ⟨fun k => k = W.heap.size ∨ v.ownBlock = some k, T, v, dv, ⟨fun k hk => ?_, .inl rfl, heap_alloc_new W _, ha.under hb1, fun k hk => ⟨.inr hk, ?_⟩⟩, h.underZ hb2, fun k h1 h2 => ?_, fun k => Iff.rfl⟩, fun k hk => ?_, fun k hk => .inr hk⟩, hb2⟩
  · rw [hz]
    rcases hk with hk | hk
    · omega
    · have := hf k hk; omega
  · have := hf k hk; omega
  · have := hT k h1
    rcases h2 with hk | hk
    · omega
    · have := hf k hk; omega
  · rcases hk with (hk | hk) | hk
    · exact .inr (by omega)
    · exact .inr (hf k hk).1
    · exact .inl hk
set_option maxHeartbeats 1600000 in
theorem ropen_any {w : World} {T : Nat → Prop} {r size : Nat} {dv : Value} {fs : List AF} (h : RefM w T r size dv fs) (hok : LOk size fs) {name : ByteArray} {l : List (Int × Int)} (hop : openL fs name = (l, 0)) :
    Calls Tryz.prog 8 #[.pointer (some ⟨r, 0, none⟩), .string name] w fun e w' => ROpen w T r name l size fs e w' := by
  have HR := hid (rread_any h hok.len name)
  unfold openL at hop
  by_cases hs : synE fs name = 0
  · rw [if_pos hs] at hop
    rw [hs] at HR
    have hbl : (abytes fs name.data.toList).length ≤ 100000000 := by
      have := hok.total
      have := hok.big
      unfold abytes
      cases hl : alook fs name.data.toList with
      | none => simp
      | some x =>
        have := total_mem (List.mem_of_find?_eq_some hl)
        show x.bs.length ≤ _
        omega
    have HD : Hid (Calls Tryz.prog 29 #[.string (strOf (abytes fs name.data.toList))] w fun e w' => ∃ rv, e = .returned (.tuple #[rv, .int .i64 0]) ∧ Hid (AL w' rv l ∧ (∀ k, rv.ownBlock = some k → w.heap.size ≤ k ∧ k < w'.heap.size) ∧ Below w.heap.size w w')) := (docread_any _ w hbl).mono fun e w' hp => by
      unfold DocPost at hp
      rw [hop] at hp
      obtain ⟨h1, _, h3⟩ := hp
      obtain ⟨rv, e1, e2, e3⟩ := h1 rfl
      exact ⟨rv, e1, e2, e3, h3⟩
    have HP : Hid (∀ W rv, AL W rv l ∧ (∀ k, rv.ownBlock = some k → w.heap.size ≤ k ∧ k < W.heap.size) ∧ Below w.heap.size w W → ROpen w T r name l size fs (.returned (.tuple #[.pointer (some ⟨W.heap.size, 0, none⟩), .int .i64 0])) (W.alloc (.cells #[.pointer (some ⟨r, 0, none⟩), .string name, rv] 60))) := fun W rv ⟨a1, a2, a3⟩ => ropen_box h a3 name a1 a2
    clear h hok hop hs hbl
    generalize strOf (abytes fs name.data.toList) = b at *
    go_enter Tryz.func8, Tryz.ntmps8
    go_wp2_with (first | (go_at_call 24; refine HR.out.mono ?_; rintro e w1 ⟨rfl, hw⟩; have hw' := hw.symm; subst hw'; clear hw) | (go_at_call 29; refine HD.out.mono ?_; rintro e w2 ⟨rv, rfl, HQ⟩; obtain ⟨oa, cp, rfl, _⟩ := HQ.out.1.shape))
    go_ret2
    exact HP.out _ _ HQ.out
  · rw [if_neg hs] at hop
    cases hop
    have HP := hid (ropen_box h (Below.refl _ _) name (v := .slice none 0 0) (l := []) ⟨none, 0, rfl, fun h0 => by simp at h0⟩ (fun k hk => by cases hk))
    have hne : ((synE fs name : Int) != 0) = true := by simp; omega
    have hne' : ¬ ((synE fs name : Int) = 0) := by omega
    generalize (synE fs name : Int) = ee at *
    generalize strOf (abytes fs name.data.toList) = b at *
    clear h hok hs
    go_enter Tryz.func8, Tryz.ntmps8
    go_wp2_with (go_at_call 24; refine HR.out.mono ?_; rintro e w1 ⟨rfl, hw⟩; have hw' := hw.symm; subst hw'; clear hw)
    go_ret2
    exact HP.out
end Go.Proofs.YtjggdecjnnpjaaaGreat

