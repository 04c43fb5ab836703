/- What copied does: the same bytes in new memory. -/
import Derived.Test.YtpdghpmfacaglaaPut
import Derived.Laws.AppendOwnNone
namespace Go.Proofs.Ytpdghpmfacaglaa
open Go.RowKit Go.Maps
set_option maxRecDepth 100000
set_option linter.unusedSimpArgs false

theorem info5 : (Try.prog.info? 5).map (fun i => (i.zero, i.size, i.bytes)) = some (some (.int .u8 0), 1, 1) := by kernel_rfl

/-- A slice whose cells hold such bytes, wherever. -/
def Src (w : World) (oa : Option Addr) (bs : List UInt8) : Prop :=
  (oa = none ∧ bs = []) ∨ ∃ g, oa = some ⟨g, 0, none⟩ ∧ ∀ i (hi : i < bs.length), w.cell? ⟨g, i, none⟩ = some (.int .u8 (bs[i].toNat : Int))

theorem u8s_oneCell (bs : List UInt8) : ∀ u ∈ u8s bs, u.oneCell' = true := by
  intro u hu
  simp only [u8s, List.mem_map] at hu
  obtain ⟨b, _, rfl⟩ := hu
  rfl

theorem ownsRow_bytes {w : World} {base : Nat} {v : Value} {bs : List UInt8} {S : Nat → Prop} (h : w.ownsRow base 5 1 v bs.length (u8s bs)) (hS : ∀ k, base ≤ k → k < w.heap.size → S k) : BytesAt w S v bs := by
  obtain ⟨_, ⟨rfl, h0⟩ | ⟨g, cap, cur, rfl, hb, hg, hn, hc, hs, ht⟩⟩ := h
  · exact .inl ⟨rfl, List.eq_nil_of_length_eq_zero h0⟩
  · exact .inr ⟨g, cap, cur, (0, 0), rfl, hS g hb (Array.getElem?_eq_some_iff.1 hg).1, hg, hn, hc, by simpa using hs, .inl rfl, by simpa using ht⟩

set_option maxHeartbeats 400000 in
theorem copied_any (w : World) (oa : Option Addr) (cap : Nat) (bs : List UInt8) (hsrc : Src w oa bs) (hlen : bs.length ≤ 16777216) (hcap : oa = none → cap = 0) :
    Calls Try.prog 43 #[.slice oa bs.length cap] w fun e w' => ∃ v, e = .returned v ∧ BytesAt w' (fun k => w.heap.size ≤ k ∧ k < w'.heap.size) v bs ∧ Below w.heap.size w w' := by
  obtain ⟨i0, hi, hz0, hz1, hz2⟩ := info_parts info5
  rcases hsrc with ⟨rfl, rfl⟩ | ⟨g, rfl, hc⟩
  · have := hcap rfl
    subst this
    go_enter Try.func43, Try.ntmps43
    go_wp2_with (at_builtin; refine wpList_append_own_none rfl _ _ 63 rfl w.heap.size 5 i0 1 Try.underlying63 hi _ 0 [] rfl (World.ownsRow_nil _ _ _ _) rfl ?_)
    go_ret
    exact ⟨_, rfl, .inl ⟨rfl, rfl⟩, Below.refl _ _⟩
  · have hnews : ∀ j u, (u8s bs)[j]? = some u → w.cell? ((⟨g, 0, none⟩ : Addr).add j) = some u := by
      intro j u hu
      have hadd : (⟨g, 0, none⟩ : Addr).add j = ⟨g, j, none⟩ := by unfold Addr.add; split <;> simp_all
      rcases Nat.lt_or_ge j bs.length with hj | hj
      · rw [hadd, hc j hj, ← hu]; simp [u8s, hj]
      · rw [List.getElem?_eq_none (by rw [u8s_length]; exact hj)] at hu; cases hu
    go_enter Try.func43, Try.ntmps43
    go_wp2_with (at_builtin; refine wpList_append_own _ rfl _ _ 63 rfl w.heap.size 5 i0 (.int .u8 0) 1 1 Try.underlying63 hi hz0 hz1 hz2 rfl (by decide) _ 0 [] rfl (World.ownsRow_nil _ _ _ _) ⟨g, 0, none⟩ bs.length cap (u8s bs) rfl (by rw [u8s_length, Nat.mul_one]) hnews (u8s_oneCell bs) (by unfold maxLen; omega) (by omega) (Nat.le_refl _) ?_; intro v w1 hown hgrow hnil)
    go_ret
    rw [Nat.zero_add, List.nil_append] at hown
    exact ⟨_, rfl, ownsRow_bytes hown (fun k h1 h2 => ⟨h1, h2⟩), (Below.refl _ _).grown hgrow (Nat.le_refl _) (fun k hk => by cases hk)⟩
end Go.Proofs.Ytpdghpmfacaglaa
