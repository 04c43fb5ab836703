/- New partitions: what they are; the loop that makes them. -/
import Derived.Test.YtcffomhcmilcpaaGreatK10
namespace Go.Proofs.YtcffomhcmilcpaaGreat
open Go.RowKit Go.Maps
set_option maxRecDepth 100000
set_option linter.unusedSimpArgs false
set_option linter.unusedVariables false

theorem roundL_mem {l : List Int} {k n : Nat} (hl : 0 < l.length) {x : Int} (hx : x ∈ roundL l k n) : x ∈ l := by
  obtain ⟨i, _, rfl⟩ := List.mem_map.1 hx
  have h : (k + i) % l.length < l.length := Nat.mod_lt _ hl
  rw [List.getElem?_eq_getElem h]
  simp
theorem roundL_nodup {l : List Int} {k n : Nat} (hd : l.Nodup) (hn : n ≤ l.length) : (roundL l k n).Nodup := by
  unfold roundL
  rw [List.Nodup, List.pairwise_map]
  refine List.Pairwise.imp_of_mem (R := fun a b => a < b) ?_ List.pairwise_lt_range
  intro i j hi hj hij
  have h1 := List.mem_range.1 hi
  have h2 := List.mem_range.1 hj
  have hl : 0 < l.length := by omega
  have a1 : (k + i) % l.length < l.length := Nat.mod_lt _ hl
  have a2 : (k + j) % l.length < l.length := Nat.mod_lt _ hl
  rw [List.getElem?_eq_getElem a1, List.getElem?_eq_getElem a2]
  simp only [Option.getD_some]
  intro e
  have hp := List.pairwise_iff_getElem.1 hd
  have e2 : (k + i) % l.length = (k + j) % l.length := by
    rcases Nat.lt_trichotomy ((k + i) % l.length) ((k + j) % l.length) with h | h | h
    · exact absurd e (hp _ _ a1 a2 h)
    · exact h
    · exact absurd e.symm (hp _ _ a2 a1 h)
  have e3 := Nat.div_add_mod (k + i) l.length
  have e4 := Nat.div_add_mod (k + j) l.length
  rw [e2] at e3
  have e5 : l.length * ((k + j) / l.length) = l.length * ((k + i) / l.length) + (j - i) := by omega
  have e6 : l.length ∣ (j - i) := ⟨(k + j) / l.length - (k + i) / l.length, by rw [Nat.mul_sub]; omega⟩
  have := Nat.le_of_dvd (by omega) e6
  omega
theorem newP_right {l : List Int} {k n : Nat} {id c : Int} (hd : l.Nodup ∧ ∀ x ∈ l, 1 ≤ x ∧ x ≤ 7) (hn0 : 0 < n) (hn : n ≤ l.length) (hid : 1 ≤ id ∧ id ≤ 16) (hc : 1 ≤ c ∧ c ≤ 5) : RightP (newP id (roundL l k n) c) := by
  have hl : 0 < l.length := by omega
  have hr : (roundL l k n).Nodup ∧ ∀ x ∈ roundL l k n, 1 ≤ x ∧ x ≤ 7 := ⟨roundL_nodup hd.1 hn, fun x hx => hd.2 x (roundL_mem hl hx)⟩
  have hne : roundL l k n ≠ [] := by intro e; have := congrArg List.length e; simp [roundL] at this; omega
  have hnil : ([] : List Int).Nodup ∧ ∀ x ∈ ([] : List Int), 1 ≤ x ∧ x ≤ 7 := ⟨by simp, fun x hx => by cases hx⟩
  generalize roundL l k n = R at *
  refine ⟨hid, hc, by unfold newP; simp, by unfold newP; simp, hr, hr, hnil, hnil, hne, fun x hx => hx, (fun x hx => by cases hx), (fun x hx => by cases hx), (fun x hx => by cases hx), ?_, .inr ?_⟩
  · show outL R [] ≠ []
    rw [outL_self (fun x _ h => by cases h)]
    exact hne
  · show headL R ∈ R
    cases R with
    | nil => exact absurd rfl hne
    | cons a r => simp [headL]
theorem moreP_succ (n : Nat) (up : List Int) (b : Nat) (c : Int) (k : Nat) : moreP n up b c (k + 1) = moreP n up b c k ++ [newP ((n : Int) + 1 + (k : Int)) (roundL up k b) c] := by
  simp [moreP, List.range_succ]
theorem moreP_len (n : Nat) (up : List Int) (b : Nat) (c : Int) (k : Nat) : (moreP n up b c k).length = k := by simp [moreP]
theorem ImOk.push {I : Im} (h : ImOk I) {p : Pt} (hp : RightP p) (hi : p.id = (I.parts.length : Int) + 1) (hf : I.parts.length < 16) : ImOk { I with parts := I.parts ++ [p] } := by
  refine ⟨h.keys, h.brs, fun j r hr => ?_, by simp; omega, h.tops, h.name, h.nums, h.eps, h.epv, h.app⟩
  rcases Nat.lt_or_ge j I.parts.length with hlt | hge
  · rw [List.getElem?_append_left hlt] at hr
    exact h.parts j r hr
  · rw [List.getElem?_append_right hge] at hr
    have hj : j - I.parts.length = 0 := by
      rcases Nat.eq_zero_or_pos (j - I.parts.length) with h0 | h0
      · exact h0
      · rw [List.getElem?_eq_none (by simp; omega)] at hr; cases hr
    rw [hj] at hr
    simp at hr
    subst hr
    exact ⟨hp, by rw [hi]; omega⟩
theorem own_some {g n c k : Nat} (h : (Value.slice (some ⟨g, 0, none⟩) n c).ownBlock = some k) : g = k := by cases h; rfl
/-- What the loop has come to. -/
structure TopL (W wr : World) (L : Nat → Prop) (q b : Nat) (vt vp ve : Value) (J : Im) (up : List Int) (nb : Nat) (rc : Int) (k : Nat) : Prop where
  im : ∃ L' oa cap ps, ImC wr L' q b vt (.slice oa ps.length cap) ve ps { J with parts := J.parts ++ moreP J.parts.length up nb rc k } ∧ (∀ j, L' j → L j ∨ W.heap.size ≤ j) ∧ (∀ j, (Value.slice oa ps.length cap).ownBlock = some j → vp.ownBlock = some j ∨ W.heap.size ≤ j)
  keeps : Keeps (Own q b vt vp ve) W wr
theorem TopL.start {W : World} {L : Nat → Prop} {q b : Nat} {vt ve : Value} {J : Im} {ps : List (Value × Pt)} {oa : Option Addr} {cap : Nat} (h : ImC W L q b vt (.slice oa ps.length cap) ve ps J) (up : List Int) (nb : Nat) (rc : Int) : TopL W W L q b vt (.slice oa ps.length cap) ve J up nb rc 0 :=
  ⟨⟨L, oa, cap, ps, by simp [moreP]; exact h, fun j hj => .inl hj, fun j hj => .inl hj⟩, Keeps.refl _ _⟩
theorem TopL.next {W wr W3 : World} {L L1 L2 : Nat → Prop} {q b : Nat} {vt vp ve : Value} {J : Im} {up : List Int} {nb : Nat} {rc : Int} {k : Nat} {oa : Option Addr} {cap g c : Nat} {ps ps2 : List (Value × Pt)} (hk : Keeps (Own q b vt vp ve) W wr)
    (h1 : ∀ j, L1 j → L j ∨ W.heap.size ≤ j) (h2 : ∀ j, (Value.slice oa ps.length cap).ownBlock = some j → vp.ownBlock = some j ∨ W.heap.size ≤ j)
    (i1 : ImC W3 L2 q b vt (.slice (some ⟨g, 0, none⟩) (ps.length + 1) c) ve ps2 { J with parts := (J.parts ++ moreP J.parts.length up nb rc k) ++ [newP ((J.parts.length : Int) + 1 + (k : Int)) (roundL up k nb) rc] })
    (i2 : ∀ j, L2 j → L1 j ∨ wr.heap.size ≤ j) (i3 : (Value.slice oa ps.length cap).ownBlock = some g ∨ wr.heap.size ≤ g) (i4 : Keeps (Own q b vt (.slice oa ps.length cap) ve) wr W3) : TopL W W3 L q b vt vp ve J up nb rc (k + 1) := by
  have hs := hk.size
  have hl : ps.length + 1 = ps2.length := by
    obtain ⟨_, _, e, _⟩ := row_shape i1.parts
    simp only [Value.slice.injEq] at e
    exact e.2.1
  refine ⟨⟨L2, some ⟨g, 0, none⟩, c, ps2, ?_, fun j hj => ?_, fun j hj => ?_⟩, hk.trans i4 (fun j hj => ?_)⟩
  · rw [moreP_succ, ← List.append_assoc, ← hl]
    exact i1
  · rcases i2 j hj with h | h
    · exact h1 j h
    · exact .inr (Nat.le_trans hs h)
  · cases hj
    rcases i3 with h | h
    · exact h2 g h
    · exact .inr (Nat.le_trans hs h)
  · rcases hj with e | e | e | e | e
    · exact .inl (.inl e)
    · exact .inl (.inr (.inl e))
    · exact .inl (.inr (.inr (.inl e)))
    · rcases h2 j e with e | e
      · exact .inl (.inr (.inr (.inr (.inl e))))
      · exact .inr e
    · exact .inl (.inr (.inr (.inr (.inr e))))
end Go.Proofs.YtcffomhcmilcpaaGreat

