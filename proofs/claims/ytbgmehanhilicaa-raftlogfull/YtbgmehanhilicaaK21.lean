/- Put without memory. -/
import Derived.Test.YtbgmehanhilicaaK11
import Derived.Test.YtbgmehanhilicaaK20
import Derived.Test.YtbgmehanhilicaaK19
namespace Go.Proofs.Ytbgmehanhilicaa
set_option linter.unusedSimpArgs false
set_option linter.unusedVariables false

theorem right_zero (after : Int) : ∀ (l : List Et) (k : Nat) (T : Int), rightE after k T l = 0 → (∀ (j : Nat) x, l[j]? = some x → x.i = after + 1 + (k : Int) + (j : Int)) ∧ (∀ x ∈ l, (1 ≤ x.t ∧ x.t ≤ 1000000000) ∧ (1 ≤ x.i ∧ x.i ≤ 1000000000) ∧ x.d.length ≤ 2048 ∧ T ≤ x.t) ∧ l.Pairwise (fun x y => x.t ≤ y.t)
  | [], k, T, h => ⟨fun j x hx => by simp at hx, by simp, List.Pairwise.nil⟩
  | x :: r, k, T, h => by
    unfold rightE at h
    by_cases hb : badE after k T x = true
    · rw [if_pos hb] at h; cases h
    · rw [if_neg hb] at h
      by_cases hd : 2048 < x.d.length
      · rw [if_pos hd] at h; cases h
      · rw [if_neg hd] at h
        obtain ⟨i1, i2, i3⟩ := right_zero after r (k + 1) x.t h
        have hb' : badE after k T x = false := by simpa using hb
        unfold badE at hb'
        simp only [Bool.or_eq_false_iff, decide_eq_false_iff_not, Bool.not_eq_false'] at hb'
        obtain ⟨⟨⟨b1, b2⟩, b3⟩, b4⟩ := hb'
        have r2 := (idB_iff _).1 (by simpa using b2)
        have r3 := (idB_iff _).1 (by simpa using b3)
        have hx : x.i = after + 1 + (k : Int) := by simpa using b1
        refine ⟨fun j y hy => ?_, fun y hy => ?_, ?_⟩
        · cases j with
          | zero => simp at hy; subst hy; simp; exact hx
          | succ j =>
            have := i1 j y (by simpa using hy)
            rw [this]; push_cast; omega
        · rcases List.mem_cons.1 hy with rfl | hy
          · exact ⟨r3, r2, by omega, by omega⟩
          · obtain ⟨a1, a2, a3, a4⟩ := i2 y hy
            exact ⟨a1, a2, a3, by omega⟩
        · exact List.pairwise_cons.2 ⟨fun y hy => (i2 y hy).2.2.2, i3⟩
theorem right_zero0 {after : Int} {l : List Et} (h : rightE after 0 1 l = 0) : (∀ (j : Nat) x, l[j]? = some x → x.i = after + 1 + (j : Int)) ∧ (∀ x ∈ l, (1 ≤ x.t ∧ x.t ≤ 1000000000) ∧ (1 ≤ x.i ∧ x.i ≤ 1000000000) ∧ x.d.length ≤ 2048) ∧ l.Pairwise (fun x y => x.t ≤ y.t) := by
  obtain ⟨h1, h2, h3⟩ := right_zero after l 0 1 h
  exact ⟨fun j x hx => by have := h1 j x hx; omega, fun x hx => ⟨(h2 x hx).1, (h2 x hx).2.1, (h2 x hx).2.2.1⟩, h3⟩
theorem unk_drop (s : LSt) : ∀ l : List Et, ∃ k, k ≤ l.length ∧ unkE s l = l.drop k ∧ (∀ (j : Nat) y, j < k → l[j]? = some y → knownE s y = true) ∧ (∀ x, l[k]? = some x → knownE s x = false)
  | [] => ⟨0, Nat.le_refl _, rfl, fun j y hj => by omega, fun x hx => by simp at hx⟩
  | x :: r => by
    unfold unkE
    by_cases hkn : knownE s x = true
    · rw [if_pos hkn]
      obtain ⟨k, h1, h2, h3, h4⟩ := unk_drop s r
      refine ⟨k + 1, by simp; omega, by simpa using h2, fun j y hj hy => ?_, fun y hy => h4 y (by simpa using hy)⟩
      cases j with
      | zero => simp at hy; subst hy; exact hkn
      | succ j => exact h3 j y (by omega) (by simpa using hy)
    · rw [if_neg hkn]
      exact ⟨0, by simp, rfl, fun j y hj => by omega, fun y hy => by simp at hy; subst hy; simpa using hkn⟩
/-- The first that is left stands at the end, or ahead of it. -/
theorem unk_first {s : LSt} (hk : LOk s) {after : Int} (h0 : 0 ≤ after) (h1 : after ≤ (lastE s).i) {l : List Et} (hr : rightE after 0 1 l = 0) {x : Et} {r : List Et} (hu : unkE s l = x :: r) :
    ∃ n : Nat, n ≤ s.list.length ∧ x.i = s.snap.i + 1 + (n : Int) ∧ (x.i - (s.snap.i + 1)).toNat = n ∧ (∀ y ∈ x :: r, (1 ≤ y.t ∧ y.t ≤ 1000000000) ∧ (1 ≤ y.i ∧ y.i ≤ 1000000000) ∧ y.d.length ≤ 2048) ∧ (x :: r).Pairwise (fun x y => x.t ≤ y.t) ∧ (∀ (j : Nat) y, (x :: r)[j]? = some y → y.i = x.i + (j : Int)) ∧ (x :: r).length ≤ l.length := by
  obtain ⟨k, k1, k2, k3, k4⟩ := unk_drop s l
  obtain ⟨z1, z2, z3⟩ := right_zero0 hr
  rw [hu] at k2
  have hx : l[k]? = some x := by
    have : (l.drop k)[0]? = some x := by rw [← k2]; rfl
    rw [List.getElem?_drop] at this
    exact this
  have hxi := z1 k x hx
  have hxk := k4 x hx
  unfold knownE at hxk
  simp only [Bool.or_eq_false_iff, decide_eq_false_iff_not] at hxk
  have hlast := hk.last
  have hle : x.i ≤ s.snap.i + 1 + (s.list.length : Int) := by
    cases k with
    | zero => simp at hxi; omega
    | succ k =>
      have hlt : k < l.length := by have := (List.getElem?_eq_some_iff.1 hx).1; omega
      have hy : l[k]? = some l[k] := List.getElem?_eq_getElem hlt
      have hyk := k3 k _ (by omega) hy
      have hyi := z1 k _ hy
      unfold knownE at hyk
      simp only [Bool.or_eq_true, decide_eq_true_eq] at hyk
      rcases hyk with h | h
      · push_cast at hxi; omega
      · cases hA : atE s l[k].i with
        | none => rw [hA] at h; simp at h
        | some y =>
          obtain ⟨j, hj, hjl, _⟩ := atE_some hA
          push_cast at hxi; omega
  refine ⟨(x.i - (s.snap.i + 1)).toNat, by omega, by omega, rfl, ?_, ?_, ?_, ?_⟩
  · rw [k2]; exact fun y hy => z2 y (List.mem_of_mem_drop hy)
  · rw [k2]; exact z3.sublist (List.drop_sublist _ _)
  · intro j y hy
    rw [k2, List.getElem?_drop] at hy
    have := z1 _ _ hy
    rw [this, hxi]; push_cast; omega
  · rw [k2, List.length_drop]; omega
theorem pw_take {s : LSt} (h : LOk s) (n : Nat) : (s.snap :: s.list.take n).Pairwise (fun x y => x.t ≤ y.t) := h.rise.sublist ((List.take_sublist n s.list).cons_cons s.snap)
theorem putE_ok {s : LSt} (hk : LOk s) (free : Nat) (after : Int) (l : List Et) : LOk (putE free s after l).2 := by
  unfold putE
  split
  · exact hk
  rename_i ha
  split
  · exact hk
  rename_i hr
  have hr' : rightE after 0 1 l = 0 := Decidable.byContradiction hr
  cases hu : unkE s l with
  | nil => exact hk
  | cons x r =>
    simp only
    split
    · exact hk
    rename_i ht
    split
    · exact hk
    obtain ⟨n, hn, hxi, hxn, hrg, hpw, hidx, _⟩ := unk_first hk (by omega) (by omega) hr' hu
    rw [hxn]
    have hahead : (aheadE s x.i).t ≤ x.t := by omega
    have hlt : (s.list.take n).length = n := by rw [List.length_take]; omega
    -- each of those kept is not behind the new ones
    have hkeep : ∀ y ∈ s.snap :: s.list.take n, y.t ≤ x.t := by
      intro y hy
      cases n with
      | zero =>
        have hA : atE s (x.i - 1) = none := by unfold atE; rw [if_pos (.inl (by simp at hxi; omega))]
        unfold aheadE at hahead
        rw [hA] at hahead
        simp at hy hahead
        rw [hy]; exact hahead
      | succ n =>
        have hA : atE s (x.i - 1) = s.list[n]? := by
          have : x.i - 1 = s.snap.i + 1 + (n : Int) := by push_cast at hxi; omega
          rw [this, atE_at]
        have hz : s.list[n]? = some s.list[n] := List.getElem?_eq_getElem (by omega)
        unfold aheadE at hahead
        rw [hA, hz] at hahead
        simp only [Option.getD_some] at hahead
        have hp := pw_take hk (n + 1)
        rw [List.take_succ_eq_append_getElem (by omega), ← List.cons_append] at hp
        rw [List.take_succ_eq_append_getElem (by omega), ← List.cons_append, List.mem_append] at hy
        rcases hy with hy | hy
        · have := (List.pairwise_append.1 hp).2.2 y hy s.list[n] (by simp)
          omega
        · simp at hy; rw [hy]; exact hahead
    refine ⟨fun j y hy => ?_, ?_, fun y hy => ?_, hk.srng, hk.hs, (by intro h; cases h), hk.tv, hk.ht⟩
    · simp only at hy ⊢
      by_cases hj : j < n
      · rw [List.getElem?_append_left (by omega), List.getElem?_take, if_pos hj] at hy
        exact hk.idx j y hy
      · rw [List.getElem?_append_right (by omega), hlt] at hy
        have := hidx _ y hy
        omega
    · show (s.snap :: (s.list.take n ++ (x :: r))).Pairwise _
      rw [← List.cons_append, List.pairwise_append]
      refine ⟨pw_take hk n, hpw, fun y hy z hz => ?_⟩
      have h1 := hkeep y hy
      rcases List.mem_cons.1 hz with rfl | hz
      · exact h1
      · have := (List.pairwise_cons.1 hpw).1 z hz; omega
    · simp only at hy
      rcases List.mem_append.1 hy with hy | hy
      · exact hk.rng y (List.mem_of_mem_take hy)
      · exact hrg y hy
theorem snapE_ok {s : LSt} (hk : LOk s) (size : Nat) (index term : Int) (data : List UInt8) : LOk (snapE size s index term data).2 := by
  unfold snapE
  split
  · exact hk
  rename_i h1
  split
  · exact hk
  rename_i h2
  split
  · exact hk
  rename_i h3
  split
  · exact hk
  rename_i h4
  split
  · exact hk
  have b1 := (idB_iff index).1 (by cases hb : idB index; exact absurd (.inl hb) h1; rfl)
  have b2 := (idB_iff term).1 (by cases hb : idB term; exact absurd (.inr hb) h1; rfl)
  have hB : beginE s ⟨term, index, data⟩ = [] ∨ ∃ (k : Nat) (y : Et), index = s.snap.i + 1 + (k : Int) ∧ s.list[k]? = some y ∧ y.t = term ∧ beginE s ⟨term, index, data⟩ = s.list.drop (k + 1) := by
    unfold beginE
    cases hA : atE s index with
    | none => exact .inl rfl
    | some y =>
      simp only
      by_cases ht : y.t = term
      · rw [if_pos ht]
        obtain ⟨k, hk1, hk2, hk3, hk4⟩ := atE_some hA
        exact .inr ⟨k, y, hk1, hk3, ht, by congr 1; omega⟩
      · rw [if_neg ht]; exact .inl rfl
  have hsub : ∀ y ∈ beginE s ⟨term, index, data⟩, y ∈ s.list := by
    intro y hy
    rcases hB with h | ⟨k, z, _, _, _, h⟩
    · rw [h] at hy; cases hy
    · rw [h] at hy; exact List.mem_of_mem_drop hy
  refine ⟨fun j y hy => ?_, ?_, fun y hy => hk.rng y (hsub y hy), ⟨⟨by simp; omega, by simp; omega⟩, ⟨by simp; omega, by simp; omega⟩, by simp; omega⟩, ⟨(by intro h; cases h), fun _ => ⟨by simp; omega, by simp; omega⟩⟩, fun h => ?_, hk.tv, hk.ht⟩
  · simp only at hy ⊢
    rcases hB with h | ⟨k, z, h5, _, _, h⟩
    · rw [h] at hy; simp at hy
    · rw [h, List.getElem?_drop] at hy
      have := hk.idx _ y hy
      push_cast at this; omega
  · show ((⟨term, index, data⟩ : Et) :: beginE s ⟨term, index, data⟩).Pairwise _
    rcases hB with h | ⟨k, z, h5, h6, h7, h⟩
    · rw [h]; simp
    · rw [h]
      have hkl : k < s.list.length := (List.getElem?_eq_some_iff.1 h6).1
      have hp := (List.pairwise_cons.1 hk.rise).2
      have e : s.list.drop k = z :: s.list.drop (k + 1) := by
        rw [List.drop_eq_getElem_cons hkl]
        congr 1
        exact (List.getElem?_eq_some_iff.1 h6).2
      have hp2 := hp.sublist (List.drop_sublist k s.list)
      rw [e, List.pairwise_cons] at hp2
      refine List.pairwise_cons.2 ⟨fun y hy => ?_, hp2.2⟩
      have := hp2.1 y hy
      show term ≤ y.t
      omega
  · have := hk.hl h
    show beginE s ⟨term, index, data⟩ = []
    rcases hB with h | ⟨k, z, h5, h6, h7, _⟩
    · exact h
    · rw [this] at h6; simp at h6
end Go.Proofs.Ytbgmehanhilicaa

/- Put. -/
namespace Go.Proofs.Ytbgmehanhilicaa
open Go.RowKit Go.Maps
set_option maxRecDepth 100000
set_option linter.unusedSimpArgs false
set_option linter.unusedVariables false

theorem field38 (u0 u1 u2 : Value) (w : World) : (Instr.field 38 (.agg #[u0, u1, u2]) 0).run Try.prog w = .ok u0 w := by kernel_rfl
set_option maxHeartbeats 6400000 in
theorem logput_any {w : World} {B q a size s} (h : LD w B q a size s) (hk : LOk s) {oa : Option Addr} {cap : Nat} {l : List Et} (hm : EAt w oa l) (hl : l.length ≤ 1000) (hc : l.length ≤ cap) (hcm : cap ≤ maxLen) (hgB : 0 < l.length → ∀ ad, oa = some ad → ¬ B ad.block) (after : Int) :
    Calls Try.prog 11 #[.pointer (some ⟨q, 0, none⟩), .int .i64 after, .slice oa l.length cap] w fun e w' => e = .returned (.int .i64 ((putE (size - totalA s.fs) s after l).1 : Int)) ∧ LDA B w w' q a size (putE (size - totalA s.fs) s after l).2 := by
  have hlb := h.lb hk
  have HSame : Hid (∀ w', Below w.heap.size w w' → LDA B w w' q a size s) := fun w' hb => LDA.same h hb
  obtain ⟨U, S, v, hM, hD, hUS, hB⟩ := h
  have H8 := hid (last_any hM hlb)
  have hlast := hk.last
  have hls := hk.srng
  have hll := hlb.len
  by_cases h1 : after < 0 ∨ (lastE s).i < after
  · have HT : Hid (putE (size - totalA s.fs) s after l = (10, s)) := by show _ = _; unfold putE; rw [if_pos h1]
    clear hM hD hUS hB hk hm hlast
    generalize lastE s = E at *
    by_cases h2 : after < 0
    · have h2' : decide (after < 0) = true := decide_eq_true h2
      go_enter Try.func11, Try.ntmps11
      go_wp2_with (go_at_call 8; refine H8.out.mono ?_; rintro e w2 ⟨rfl, hb2⟩)
      go_ret
      rw [HT.out]
      exact ⟨rfl, HSame.out _ hb2⟩
    · have h3 : E.i < after := by omega
      go_enter Try.func11, Try.ntmps11
      go_wp2_with (go_at_call 8; refine H8.out.mono ?_; rintro e w2 ⟨rfl, hb2⟩)
      go_ret
      rw [HT.out]
      exact ⟨rfl, HSame.out _ hb2⟩
  · have a0 : ¬ after < 0 := by omega
    have a1 : ¬ (lastE s).i < after := by omega
    have H29 : Hid (∀ W, Below w.heap.size w W → Calls Try.prog 29 #[.int .i64 after, .slice oa l.length cap] W fun e w' => e = .returned (.int .i64 (rightE after 0 1 l : Nat)) ∧ Below w.heap.size w w') := fun W hW => (right_any (hm.under hW) (by omega) after (by omega) (by omega)).mono fun e w' ⟨e1, e2⟩ => ⟨e1, hW.trans (e2.mono hW.size)⟩
    by_cases h2 : rightE after 0 1 l = 0
    · have H30 : Hid (∀ W, Below w.heap.size w W → Calls Try.prog 30 #[.pointer (some ⟨q, 0, none⟩), .slice oa l.length cap] W fun e w' => UnkPost s oa cap l e ∧ Below w.heap.size w w') := fun W hW => (unk_any (hM.under hW) hlb (hm.under hW) (by omega) hc hcm).mono fun e w' ⟨e1, e2⟩ => ⟨e1, hW.trans (e2.mono hW.size)⟩
      rw [h2] at H29
      cases hu : unkE s l with
      | nil =>
        have HT : Hid (putE (size - totalA s.fs) s after l = (0, s)) := by show _ = _; unfold putE; rw [if_neg h1, if_neg (fun h => h h2), hu]
        have H30' : Hid (∀ W, Below w.heap.size w W → Calls Try.prog 30 #[.pointer (some ⟨q, 0, none⟩), .slice oa l.length cap] W fun e w' => e = .returned (.slice none 0 0) ∧ Below w.heap.size w w') := fun W hW => (H30.out W hW).mono fun e w' ⟨e1, e2⟩ => ⟨by
          rcases e1 with ⟨_, e⟩ | ⟨g, o, k, _, hkl, hd, _⟩
          · exact e
          · rw [hu] at hd
            have := congrArg List.length hd
            rw [List.length_drop] at this
            simp at this
            omega, e2⟩
        clear hM hD hUS hB hk hm hlast H30 hu h1 h2
        generalize lastE s = E at *
        go_enter Try.func11, Try.ntmps11
        go_wp2_with (first | (go_at_call 8; refine H8.out.mono ?_; rintro e w2 ⟨rfl, hb2⟩) | (go_at_call 29; refine (H29.out _ hb2).mono ?_; rintro e w3 ⟨rfl, hb3⟩) | (go_at_call 30; refine (H30'.out _ hb3).mono ?_; rintro e w4 ⟨rfl, hb4⟩))
        go_ret
        rw [HT.out]
        exact ⟨rfl, HSame.out _ hb4⟩
      | cons x r =>
        obtain ⟨n, hn, hxi, hxn, hrg, _, _, hlen⟩ := unk_first hk (by omega) (by omega) h2 hu
        obtain ⟨k, k1, k2, _, _⟩ := unk_drop s l
        rw [hu] at k2
        have hkl : (x :: r).length = l.length - k := by rw [k2, List.length_drop]
        have hklt : k < l.length := by simp at hkl; omega
        obtain ⟨g, o, hoe, hg, _⟩ := hm (by omega)
        subst hoe
        have hgB' : ¬ B g := hgB (by omega) _ rfl
        have hmx : EAt w (some ⟨g, o + k * 3, none⟩) (x :: r) := by rw [k2]; exact hm.drop k
        have H30' : Hid (∀ W, Below w.heap.size w W → Calls Try.prog 30 #[.pointer (some ⟨q, 0, none⟩), .slice (some ⟨g, o, none⟩) l.length cap] W fun e w' => e = .returned (.slice (some ⟨g, o + k * 3, none⟩) (x :: r).length (cap - k)) ∧ Below w.heap.size w w') := fun W hW => (H30.out W hW).mono fun e w' ⟨e1, e2⟩ => ⟨by
          rcases e1 with ⟨e, _⟩ | ⟨g', o', k', hoo, hkl', hd, e⟩
          · rw [hu] at e; cases e
          · cases hoo
            rw [hu] at hd
            have h5 := congrArg List.length hd
            rw [List.length_drop] at h5
            have : k' = k := by omega
            rw [this] at e
            rw [hkl]
            exact e, e2⟩
        obtain ⟨r0, r1, _⟩ := hmx.at_ 0 x rfl
        simp only [Nat.zero_mul, Nat.add_zero] at r0 r1
        have HK : Hid (∀ W, Below w.heap.size w W → W.cell? ⟨g, o + k * 3, none⟩ = some (.int .i64 x.t) ∧ W.cell? ⟨g, o + k * 3 + 1, none⟩ = some (.int .i64 x.i)) := fun W hW => ⟨by rw [World.cell?_of_block (a := ⟨g, o + k * 3, none⟩) (hW.block g hg)]; exact r0, by rw [World.cell?_of_block (a := ⟨g, o + k * 3 + 1, none⟩) (hW.block g hg)]; exact r1⟩
        have hxr := hrg x (by simp)
        have H22 : Hid (∀ W, Below w.heap.size w W → Calls Try.prog 22 #[.pointer (some ⟨q, 0, none⟩), .int .i64 x.i] W fun e w' => e = .returned (.agg #[.int .i64 (aheadE s x.i).t, .int .i64 (aheadE s x.i).i, .string (strOf (aheadE s x.i).d)]) ∧ Below w.heap.size w w') := fun W hW => (ahead_any (hM.under hW) hlb x.i (by omega) (by omega)).mono fun e w' ⟨e1, e2⟩ => ⟨e1, hW.trans (e2.mono hW.size)⟩
        have hpos : (0 : Int) < (((x :: r).length : Nat) : Int) := by rw [List.length_cons]; omega
        have hpos2 : 0 < (x :: r).length := by simp
        have hpos3 : (((x :: r).length : Nat) : Int) ≠ 0 := by omega
        have hpos4 : ((((x :: r).length : Nat) : Int) == 0) = false := beq_eq_false_iff_ne.2 hpos3
        have hf38 := field38
        by_cases h3 : x.t < (aheadE s x.i).t
        · have HT : Hid (putE (size - totalA s.fs) s after l = (1, s)) := by show _ = _; unfold putE; rw [if_neg h1, if_neg (fun h => h h2), hu]; simp only; rw [if_pos h3]
          clear hM hD hUS hB hk hm hlast H30 hu h1 h2 hmx hkl hklt k2 hrg hxr hxi hxn hlen hgB hgB' hpos3
          generalize lastE s = E at *
          generalize aheadE s x.i = AH at *
          obtain ⟨xt, xi, xd⟩ := x
          simp only at *
          generalize (⟨xt, xi, xd⟩ :: r : List Et).length = M at *
          go_enter Try.func11, Try.ntmps11
          go_wp2_with (first | (go_at_call 8; refine H8.out.mono ?_; rintro e w2 ⟨rfl, hb2⟩) | (go_at_call 29; refine (H29.out _ hb2).mono ?_; rintro e w3 ⟨rfl, hb3⟩) | (go_at_call 30; refine (H30'.out _ hb3).mono ?_; rintro e w4 ⟨rfl, hb4⟩; have P4 := HK.out _ hb4))
          go_region_held3 (fun w' => w'.cell? ⟨g, o + k * 3, none⟩ = some (.int .i64 xt) ∧ w'.cell? ⟨g, o + k * 3 + 1, none⟩ = some (.int .i64 xi)) (first | exact P5 | exact P4)
            (first
            | (go_at_call 22; refine (H22.out _ (by first | exact hb4 | exact hb4.drew)).mono ?_; rintro e w5 ⟨rfl, hb5⟩; have P5 := HK.out _ hb5)
            | fail)
          all_goals
            go_wp2_with fail
            go_ret
            rw [HT.out]
            exact ⟨rfl, HSame.out _ hb5⟩
        · obtain ⟨s', hs1⟩ : ∃ s', s' = ({ s with list := s.list.take n ++ (x :: r), hl := true } : LSt) := ⟨_, rfl⟩
          have hs'f : s'.fs = fsOf (some (logB (s.list.take n ++ (x :: r)))) (sB s) (tB s) := by rw [hs1]; rfl
          have hs'm : s'.term = s.term ∧ s'.vote = s.vote ∧ s'.snap = s.snap ∧ s'.list = s.list.take n ++ (x :: r) := by rw [hs1]; exact ⟨rfl, rfl, rfl, rfl⟩
          have HT : Hid (putE (size - totalA s.fs) s after l = if (size - totalA s.fs) + (logB (s.list.drop n)).length < (logB (x :: r)).length then (7, s) else (0, s')) := by
            show _ = _
            unfold putE
            rw [if_neg h1, if_neg (fun h => h h2), hu]
            simp only
            rw [if_neg h3, hxn, hs1]
          have hgU : ¬ U g := fun hU => hgB' ((hB g).2 (.inl hU))
          have hgS : ¬ S g := fun hS => hgB' ((hB g).2 (.inr hS))
          have hmr : ∀ y ∈ x :: r, I64 y.t ∧ I64 y.i ∧ y.d.length ≤ 2048 := fun y hy => by
            have := hrg y hy
            exact ⟨⟨by omega, by omega⟩, ⟨by omega, by omega⟩, this.2.2⟩
          have H31 : Hid (∀ W, Below w.heap.size w W → Calls Try.prog 31 #[.pointer (some ⟨q, 0, none⟩), .slice (some ⟨g, o + k * 3, none⟩) (x :: r).length (cap - k)] W fun e w' => WrPost S w a size s s' ((size - totalA s.fs) + (logB (s.list.drop n)).length < (logB (x :: r)).length) e w') := fun W hW => (write_any (hM.under hW) hlb hk (hD.under hW) hUS (hmx.under hW) (by omega) hmr n hn hxi s' hs'f).mono fun e w' hp => by
            rcases hp with ⟨p1, p2, p3⟩ | ⟨p1, p2, p3⟩
            · exact .inl ⟨p1, p2, AfterA.begun hW p3⟩
            · exact .inr ⟨p1, p2, AfterA.begun hW p3⟩
          have H32 : Hid (∀ W, Hid (AfterA S w W a size s'.fs) → Calls Try.prog 32 #[.pointer (some ⟨q, 0, none⟩), .slice (some ⟨g, o + k * 3, none⟩) (x :: r).length (cap - k)] W fun e w' => e = .returned (.tuple #[]) ∧ Hid (LDA B w w' q a size s')) := fun W hA => by
            obtain ⟨S', g1, g2, g3, g4⟩ := id hA.out
            have hM1 := hM.beside g4 (fun k hU hS => hUS k hS hU)
            have hm1 : EAt W (some ⟨g, o + k * 3, none⟩) (x :: r) := hmx.kept g4.size (fun j hj hlt => g4.block j hlt (fun hS => by rw [← hj _ rfl] at hS; exact hgS hS))
            exact (lput_any hM1 hlb hm1 (by omega) hgU n hn hxi s' hs'm).mono fun e w' ⟨e1, e2⟩ => ⟨e1, LDA.of hM hD hUS hB hA.out (fun _ => e2)⟩
          have HNo : Hid (∀ W, AfterA S w W a size s.fs → LDA B w W q a size s) := fun W hA => LDA.of hM hD hUS hB hA (fun hM1 => LAfter.same hM1 (Below.refl _ _))
          clear hM hD hUS hB hk hm hlast H30 hu h1 h2 hmx hkl hklt k2 hrg hxr hxi hxn hlen hgB hgB' hpos3 hs1 hs'f hs'm hgU hgS hmr
          generalize lastE s = E at *
          generalize aheadE s x.i = AH at *
          obtain ⟨xt, xi, xd⟩ := x
          simp only at *
          generalize (⟨xt, xi, xd⟩ :: r : List Et).length = M at *
          by_cases hfull : (size - totalA s.fs) + (logB (s.list.drop n)).length < (logB (⟨xt, xi, xd⟩ :: r)).length
          · rw [if_pos hfull] at HT
            have H31' : Hid (∀ W, Below w.heap.size w W → Calls Try.prog 31 #[.pointer (some ⟨q, 0, none⟩), .slice (some ⟨g, o + k * 3, none⟩) M (cap - k)] W fun e w' => e = .returned (.int .i64 7) ∧ Hid (AfterA S w w' a size s.fs)) := fun W hW => (H31.out W hW).mono fun e w' hp => by
              rcases hp with ⟨p1, p2, p3⟩ | ⟨p1, p2, p3⟩
              · exact ⟨p2, p3⟩
              · exact absurd hfull p1
            clear H31 hfull
            go_enter Try.func11, Try.ntmps11
            go_wp2_with (first | (go_at_call 8; refine H8.out.mono ?_; rintro e w2 ⟨rfl, hb2⟩) | (go_at_call 29; refine (H29.out _ hb2).mono ?_; rintro e w3 ⟨rfl, hb3⟩) | (go_at_call 30; refine (H30'.out _ hb3).mono ?_; rintro e w4 ⟨rfl, hb4⟩; have P4 := HK.out _ hb4))
            go_region_held3 (fun w' => w'.cell? ⟨g, o + k * 3, none⟩ = some (.int .i64 xt) ∧ w'.cell? ⟨g, o + k * 3 + 1, none⟩ = some (.int .i64 xi)) (first | exact P5 | exact P4)
              (first
              | (go_at_call 22; refine (H22.out _ (by first | exact hb4 | exact hb4.drew)).mono ?_; rintro e w5 ⟨rfl, hb5⟩; have P5 := HK.out _ hb5)
              | fail)
            all_goals
              go_wp2_with (go_at_call 31; refine (H31'.out _ (by first | exact hb5 | exact hb5.drew)).mono ?_; rintro e w6 ⟨rfl, HA6⟩)
              go_ret
              rw [HT.out]
              exact ⟨rfl, HNo.out _ HA6.out⟩
          · rw [if_neg hfull] at HT
            have H31' : Hid (∀ W, Below w.heap.size w W → Calls Try.prog 31 #[.pointer (some ⟨q, 0, none⟩), .slice (some ⟨g, o + k * 3, none⟩) M (cap - k)] W fun e w' => e = .returned (.int .i64 0) ∧ Hid (AfterA S w w' a size s'.fs)) := fun W hW => (H31.out W hW).mono fun e w' hp => by
              rcases hp with ⟨p1, p2, p3⟩ | ⟨p1, p2, p3⟩
              · exact absurd p1 hfull
              · exact ⟨p2, p3⟩
            clear H31 hfull
            go_enter Try.func11, Try.ntmps11
            go_wp2_with (first | (go_at_call 8; refine H8.out.mono ?_; rintro e w2 ⟨rfl, hb2⟩) | (go_at_call 29; refine (H29.out _ hb2).mono ?_; rintro e w3 ⟨rfl, hb3⟩) | (go_at_call 30; refine (H30'.out _ hb3).mono ?_; rintro e w4 ⟨rfl, hb4⟩; have P4 := HK.out _ hb4))
            go_region_held3 (fun w' => w'.cell? ⟨g, o + k * 3, none⟩ = some (.int .i64 xt) ∧ w'.cell? ⟨g, o + k * 3 + 1, none⟩ = some (.int .i64 xi)) (first | exact P5 | exact P4)
              (first
              | (go_at_call 22; refine (H22.out _ (by first | exact hb4 | exact hb4.drew)).mono ?_; rintro e w5 ⟨rfl, hb5⟩; have P5 := HK.out _ hb5)
              | fail)
            all_goals
              go_wp2_with (first | (go_at_call 31; refine (H31'.out _ (by first | exact hb5 | exact hb5.drew)).mono ?_; rintro e w6 ⟨rfl, HA6⟩) | (go_at_call 32; refine (H32.out _ HA6).mono ?_; rintro e w7 ⟨rfl, HL7⟩))
              go_ret
              rw [HT.out]
              exact ⟨rfl, HL7.out⟩
    · have HT : Hid (putE (size - totalA s.fs) s after l = (rightE after 0 1 l, s)) := by show _ = _; unfold putE; rw [if_neg h1, if_pos h2]
      have h2' : ((rightE after 0 1 l : Int) != 0) = true := by simp; omega
      clear hM hD hUS hB hk hm hlast h1 h2
      generalize lastE s = E at *
      generalize rightE after 0 1 l = R at *
      go_enter Try.func11, Try.ntmps11
      go_wp2_with (first | (go_at_call 8; refine H8.out.mono ?_; rintro e w2 ⟨rfl, hb2⟩) | (go_at_call 29; refine (H29.out _ hb2).mono ?_; rintro e w3 ⟨rfl, hb3⟩))
      go_ret
      rw [HT.out]
      exact ⟨rfl, HSame.out _ hb3⟩
end Go.Proofs.Ytbgmehanhilicaa

/- rewrite, Snap. -/
namespace Go.Proofs.Ytbgmehanhilicaa
open Go.RowKit Go.Maps
set_option maxRecDepth 100000
set_option linter.unusedSimpArgs false
set_option linter.unusedVariables false

set_option maxHeartbeats 3200000 in
theorem rewrite_any {w : World} {U S q a v s size F l0} (hM : LogM w U q a v s) (hb : LB s) (hr : ∀ y ∈ s.list, I64 y.t ∧ I64 y.i ∧ y.d.length ≤ 2048) (hD : DiskA w S a size F) (hUS : ∀ k, S k → ¬ U k) (hF : F = fsOf l0 (sB s) (tB s)) (hle : (logB s.list).length ≤ (l0.getD []).length) (hsz : (logB s.list).length ≤ 16777216) :
    Calls Try.prog 28 #[.pointer (some ⟨q, 0, none⟩)] w fun e w' => e = .returned (.int .i64 0) ∧ AfterA S w w' a size (fsOf (l0.map fun _ => logB s.list) (sB s) (tB s)) := by
  subst hF
  obtain ⟨oa, cap, rfl, hcap, hcm, hnn, hoa⟩ := hM.ents.shape
  have c7 := hM.c.c7
  have c5 := hM.c.c5
  have HK : Hid (∀ W, Below w.heap.size w W → W.cell? ⟨q, 5, none⟩ = some (.slice oa s.list.length cap)) := fun W hW => (hM.under hW).c.c5
  have H24 : Hid (∀ W, Below w.heap.size w W → Calls Try.prog 24 #[.pointer (some ⟨q, 0, none⟩)] W fun e w' => e = .returned (.pointer (some ⟨a, 0, none⟩)) ∧ W = w') := fun W hW => ldisk_any (hM.under hW)
  have H48 : Hid (∀ W, Below w.heap.size w W → Calls Try.prog 48 #[.pointer (some ⟨a, 0, none⟩), .string nL] W fun e w' => e = .returned (.tuple #[.string (strOf (l0.getD [])), .int .i64 ((if l0.isSome = true then 0 else 8 : Nat) : Int)]) ∧ Below w.heap.size w w') := fun W hW => by
    have h1 := readA (hD.under hW) nL (by decide)
    have e1 : abytes (fsOf l0 (sB s) (tB s)) nL.data.toList = l0.getD [] := bytes_L _ _ _
    have e2 : synE (fsOf l0 (sB s) (tB s)) nL = (if l0.isSome = true then 0 else 8) := by unfold synE; rw [look_L]; cases l0 <;> rfl
    rw [e1, e2] at h1
    exact h1.mono fun e w' ⟨g1, g2⟩ => ⟨g1, hW.trans (g2.mono hW.size)⟩
  have H49 : Hid (∀ W, Below w.heap.size w W → Calls Try.prog 49 #[.slice oa s.list.length cap] W fun e w' => e = .returned (.string (strOf (logB s.list))) ∧ Below w.heap.size w w') := fun W hW => (logText_any (hM.under hW).ents.at hb.len hr).mono fun e w' ⟨e1, e2⟩ => ⟨e1, hW.trans (e2.mono hW.size)⟩
  have H25 : Hid (∀ W, Below w.heap.size w W → Calls Try.prog 25 #[.pointer (some ⟨a, 0, none⟩), .string nL, .string (strOf (logB s.list))] W fun e w' => e = .returned (.int .i64 0) ∧ Hid (AfterA S w w' a size (fsOf (some (logB s.list)) (sB s) (tB s))) ∧ w'.cell? ⟨q, 5, none⟩ = some (.slice oa s.list.length cap)) := fun W hW => by
    obtain ⟨R1, R2⟩ := rep_L size l0 (sB s) (tB s) (logB s.list) hle
    have h1 := replaceA (hD.under hW) nL (strOf (logB s.list)) (by decide) (by rw [strOf_size]; unfold maxLen; omega)
    rw [R1, R2] at h1
    refine h1.mono fun e w' ⟨e1, e2⟩ => ?_
    have hA := AfterA.begun hW e2
    obtain ⟨S', g1, g2, g3, g4⟩ := id hA
    exact ⟨e1, hA, (hM.beside g4 (fun k hU hS => hUS k hS hU)).c.c5⟩
  have HSame : Hid (∀ W, Below w.heap.size w W → AfterA S w W a size (fsOf l0 (sB s) (tB s))) := fun W hW => AfterA.same hD hW
  have hnL : (⟨#[114]⟩ ++ ⟨#[46, 108, 111, 103]⟩ : ByteArray) = nL := by decide
  clear hM hb hr hD hUS hle hoa
  generalize hTX : logB s.list = TX at *
  clear hTX
  generalize s.list.length = N at *
  cases l0 with
  | none =>
    simp only [Option.isSome_none, Bool.false_eq_true, if_false] at H48
    go_enter Try.func28, Try.ntmps28
    go_wp2_with (first | (go_at_call 24; refine (H24.out _ (Below.refl _ _)).mono ?_; rintro e w2 ⟨rfl, rfl⟩) | (go_at_call 48; refine (H48.out _ (Below.refl _ _)).mono ?_; rintro e w3 ⟨rfl, hb3⟩))
    go_ret
    exact ⟨rfl, HSame.out _ hb3⟩
  | some c0 =>
    simp only [Option.isSome_some, if_true] at H48
    go_enter Try.func28, Try.ntmps28
    go_wp2_with (first | (go_at_call 24; refine (H24.out _ (Below.refl _ _)).mono ?_; rintro e w2 ⟨rfl, rfl⟩) | (go_at_call 48; refine (H48.out _ (Below.refl _ _)).mono ?_; rintro e w3 ⟨rfl, hb3⟩; have p3 := HK.out _ hb3))
    go_region_held3 (fun w' => w'.cell? ⟨q, 5, none⟩ = some (.slice oa N cap)) (first | exact p5 | exact p4 | exact p3 | go_keep)
      (first
      | (go_at_call 24; refine (H24.out _ (by first | exact hb3 | exact hb3.drew | exact hb4 | exact hb4.drew)).mono ?_; rintro e w2 ⟨rfl, rfl⟩)
      | (go_at_call 49; refine (H49.out _ (by first | exact hb3 | exact hb3.drew)).mono ?_; rintro e w4 ⟨rfl, hb4⟩; have p4 := HK.out _ hb4)
      | (go_at_call 25; refine (H25.out _ (by first | exact hb4 | exact hb4.drew)).mono ?_; rintro e w5 ⟨rfl, HA5, p5⟩)
      | fail)
    all_goals
      go_wp2_with fail
      go_ret
      exact ⟨rfl, HA5.out⟩
end Go.Proofs.Ytbgmehanhilicaa

