/- What seek and Read make of a file of batches. -/
import Derived.Test.YtlgaianlkbaedaaH31
import Derived.Test.YtlgaianlkbaedaaH32
import Derived.Test.YtlgaianlkbaedaaH33
namespace Go.Proofs.Ytlgaianlkbaedaa
open Go.RowKit Go.Maps Go.Sort
set_option linter.unusedSimpArgs false
set_option linter.unusedVariables false

theorem walkL_file (P : Mk → Bool) (rest : List UInt8) : ∀ (bs : List Bat) (m : Mk) (f : Nat), Fits m bs → stepL (endM m bs) rest = none → bs.length < f → ∃ n, n ≤ bs.length ∧ walkL P f m (fileL bs ++ rest) = (endM m (bs.take n), fileL (bs.drop n) ++ rest) ∧ (n = bs.length ∨ P (endM m (bs.take (n + 1))) = true) ∧ ∀ j, 0 < j → j ≤ n → P (endM m (bs.take j)) = false
  | [], m, f, _, hs, hf => by
    cases f with
    | zero => simp at hf
    | succ f =>
      refine ⟨0, Nat.le_refl _, ?_, .inl rfl, fun j h1 h2 => by omega⟩
      have hs' : stepL m rest = none := hs
      show walkL P (f + 1) m rest = (m, rest)
      unfold walkL
      rw [hs']
  | b :: r, m, f, h, hs, hf => by
    obtain ⟨h1, h2, h3, h4, h5⟩ := h
    cases f with
    | zero => simp at hf
    | succ f =>
      have e : fileL (b :: r) ++ rest = (batchL b).1 ++ (fileL r ++ rest) := by simp [fileL]
      have hst := stepL_batch h1 h2 h3 h4 (fileL r ++ rest)
      cases hP : P (m.next b.recs.length (batchL b).1.length) with
      | true =>
        refine ⟨0, Nat.zero_le _, ?_, .inr ?_, fun j h1 h2 => by omega⟩
        · rw [e]
          unfold walkL
          rw [hst]
          simp [hP, endM, fileL]
        · simpa [endM] using hP
      | false =>
        obtain ⟨n, g1, g2, g3, g4⟩ := walkL_file P rest r _ f h5 hs (by simp at hf; omega)
        refine ⟨n + 1, by simp; omega, ?_, ?_, fun j j1 j2 => ?_⟩
        · rw [e]
          unfold walkL
          rw [hst]
          simp only [hP, Bool.false_eq_true, if_false]
          rw [g2]
          rfl
        · rcases g3 with g3 | g3
          · exact .inl (by simp; omega)
          · exact .inr g3
        · cases j with
          | zero => omega
          | succ j =>
            cases j with
            | zero => simpa [endM] using hP
            | succ j => exact g4 (j + 1) (by omega) (by omega)
/-- What Read takes of batches. -/
def takeB (most first : Int) : Bool → Mk → List Bat → List Bat
  | _, _, [] => []
  | ne, m, b :: r => if (ne && decide (most < ((m.next b.recs.length (batchL b).1.length).at_ : Int) - first)) = true then [] else b :: takeB most first true (m.next b.recs.length (batchL b).1.length) r
theorem readLs_file (most first : Int) (rest : List UInt8) : ∀ (bs : List Bat) (ne : Bool) (m : Mk) (f : Nat), Fits m bs → stepL (endM m bs) rest = none → bs.length < f → readLs most first f ne m (fileL bs ++ rest) = takeB most first ne m bs
  | [], ne, m, f, _, hs, hf => by
    cases f with
    | zero => simp at hf
    | succ f =>
      have hs' : stepL m rest = none := hs
      show readLs most first (f + 1) ne m rest = []
      unfold readLs
      rw [hs']
  | b :: r, ne, m, f, h, hs, hf => by
    obtain ⟨h1, h2, h3, h4, h5⟩ := h
    cases f with
    | zero => simp at hf
    | succ f =>
      have e : fileL (b :: r) ++ rest = (batchL b).1 ++ (fileL r ++ rest) := by simp [fileL]
      rw [e]
      unfold readLs takeB
      rw [stepL_batch h1 h2 h3 h4]
      simp only
      rw [readLs_file most first rest r true _ f h5 hs (by simp at hf; omega)]
theorem idxM_mem : ∀ (bs : List Bat) (m : Mk) (ix : List Mk) (x : Mk), x ∈ idxM m ix bs → x ∈ ix ∨ ∃ t, t < bs.length ∧ x = endM m (bs.take t)
  | [], m, ix, x, h => .inl h
  | b :: r, m, ix, x, h => by
    rcases idxM_mem r _ _ x h with h1 | ⟨t, h1, h2⟩
    · rcases addL_mem h1 with h3 | h3
      · exact .inl h3
      · exact .inr ⟨0, by simp, by simpa [endM] using h3⟩
    · exact .inr ⟨t + 1, by simp; omega, by rw [h2]; rfl⟩
theorem idxM_len : ∀ (bs : List Bat) (m : Mk) (ix : List Mk), (idxM m ix bs).length ≤ ix.length + bs.length
  | [], m, ix => by simp [idxM]
  | b :: r, m, ix => by
    have ih := idxM_len r (m.next b.recs.length (batchL b).1.length) (addL ix m)
    have := addL_len ix m
    simp only [idxM, List.length_cons]
    omega
theorem endM_split (bs : List Bat) (m : Mk) (t n : Nat) : endM (endM m (bs.take t)) ((bs.drop t).take n) = endM m (bs.take (t + n)) := by
  rw [List.take_add, endM_append]
theorem fileL_drop (bs : List Bat) (m : Mk) (hm : m.at_ = 0) (t : Nat) : (fileL bs).drop (endM m (bs.take t)).at_ = fileL (bs.drop t) := by
  rw [endM_at, hm, Nat.zero_add]
  conv => lhs; rw [← List.take_append_drop t bs, fileL_append]
  rw [List.take_append_drop t bs, List.drop_left]
theorem fits_drop (bs : List Bat) (m : Mk) (t : Nat) (h : Fits m bs) : Fits (endM m (bs.take t)) (bs.drop t) := by
  rw [← List.take_append_drop t bs] at h
  exact ((fits_append _ _ _).1 h).2
/-- seek finds the first batch whose end is beyond. -/
theorem seekAt_file {P : Mk → Bool} {base : Nat} {bs : List Bat} {R : Mk × List UInt8} (hF : Fits ⟨base, 0, 0⟩ bs) (hmono : ∀ i j, i ≤ j → j ≤ bs.length → P (endM ⟨base, 0, 0⟩ (bs.take i)) = true → P (endM ⟨base, 0, 0⟩ (bs.take j)) = true) (hend : P (endM ⟨base, 0, 0⟩ bs) = true) (hne : bs ≠ []) (hS : SeekAt P base (idxM ⟨base, 0, 0⟩ [] bs) (fileL bs) R) :
    ∃ n, n < bs.length ∧ R = (endM ⟨base, 0, 0⟩ (bs.take n), fileL (bs.drop n)) ∧ P (endM ⟨base, 0, 0⟩ (bs.take (n + 1))) = true ∧ ∀ j, 0 < j → j ≤ n → P (endM ⟨base, 0, 0⟩ (bs.take j)) = false := by
  obtain ⟨r, fr, h1, h2, h3, h4⟩ := hS
  obtain ⟨t, ht, hfr, hfalse⟩ : ∃ t, t < bs.length ∧ fr = endM ⟨base, 0, 0⟩ (bs.take t) ∧ (0 < t → P fr = false) := by
    rcases h2 with ⟨_, h2⟩ | ⟨h2, _, h5⟩
    · exact ⟨0, List.length_pos_iff.2 hne, by simpa [endM] using h2, fun h => by omega⟩
    · rcases idxM_mem bs _ _ fr (List.mem_of_getElem? h2) with h6 | ⟨t, h6, h7⟩
      · cases h6
      · exact ⟨t, h6, h7, fun _ => h5⟩
  subst hfr
  rw [fileL_drop bs _ rfl t] at h4
  have hFd := fits_drop bs _ t hF
  have hlen : (bs.drop t).length < (fileL bs).length + 1 := by
    have := fileL_length_ge bs _ hF
    simp; omega
  obtain ⟨n, g1, g2, g3, g4⟩ := walkL_file P [] (bs.drop t) _ _ hFd (stepL_none5 (by rw [batchL_nil]; decide)) hlen
  simp only [List.append_nil] at g2
  rw [h4] at g2
  simp only [endM_split, List.drop_drop] at g2 g3 g4
  have hdl : (bs.drop t).length = bs.length - t := by simp
  have hn : t + n < bs.length := by
    rcases Nat.lt_or_ge (t + n) bs.length with h | h
    · exact h
    · exfalso
      have hnn : n = bs.length - t := by omega
      have := g4 n (by omega) (Nat.le_refl _)
      rw [List.take_of_length_le (by omega)] at this
      rw [hend] at this
      cases this
  refine ⟨t + n, hn, g2, ?_, fun j j1 j2 => ?_⟩
  · rcases g3 with g3 | g3
    · omega
    · rw [Nat.add_assoc]; exact g3
  · rcases Nat.lt_or_ge t j with hj | hj
    · have := g4 (j - t) (by omega) (by omega)
      rw [show t + (j - t) = j by omega] at this
      exact this
    · cases hP : P (endM ⟨base, 0, 0⟩ (bs.take j)) with
      | false => rfl
      | true =>
        have := hmono j t hj (by omega) hP
        rw [hfalse (by omega)] at this
        cases this
end Go.Proofs.Ytlgaianlkbaedaa

/- A disk of one file, and the segment's calls on it. -/
namespace Go.Proofs.Ytlgaianlkbaedaa
open Go.RowKit Go.Maps Go.Sort
set_option linter.unusedSimpArgs false
set_option linter.unusedVariables false

def one (n : ByteArray) (bs : List UInt8) (safe : Nat) : List AF := [⟨n.data.toList, bs, safe⟩]
theorem one_look (n : ByteArray) (bs : List UInt8) (safe : Nat) : alook (one n bs safe) n.data.toList = some ⟨n.data.toList, bs, safe⟩ := by simp [alook, one]
theorem one_bytes (n : ByteArray) (bs : List UInt8) (safe : Nat) : abytes (one n bs safe) n.data.toList = bs := by unfold abytes; rw [one_look]
theorem one_safe (n : ByteArray) (bs : List UInt8) (safe : Nat) : asafe (one n bs safe) n.data.toList = safe := by unfold asafe; rw [one_look]
theorem one_total (n : ByteArray) (bs : List UInt8) (safe : Nat) : totalA (one n bs safe) = bs.length := by simp [totalA, one]
theorem one_put (n : ByteArray) (bs : List UInt8) (safe : Nat) (cs : List UInt8) (s2 : Nat) : aput (one n bs safe) ⟨n.data.toList, cs, s2⟩ = one n cs s2 := by simp [aput, adel, ains, one]
theorem one_adm (n : ByteArray) (hn : nameB n = true) (bs : List UInt8) (safe : Nat) : admE (one n bs safe) n = 0 := by
  unfold admE
  rw [if_pos hn, one_look]
  simp
theorem one_appE (n : ByteArray) (hn : nameB n = true) (size : Nat) (bs : List UInt8) (safe : Nat) (b : ByteArray) : appE size (one n bs safe) n b = if b.size ≤ size - bs.length then 0 else 7 := by
  unfold appE
  rw [if_pos (one_adm n hn bs safe), one_total]
theorem one_appL (n : ByteArray) (hn : nameB n = true) (size : Nat) (bs : List UInt8) (safe : Nat) (b : ByteArray) : appL size (one n bs safe) n b = one n (bs ++ b.data.toList.take (min b.size (size - bs.length))) safe := by
  unfold appL
  rw [if_pos (one_adm n hn bs safe), one_bytes, one_safe, one_total, one_put]
theorem nil_appL (n : ByteArray) (hn : nameB n = true) (size : Nat) : appL size [] n ⟨#[]⟩ = one n [] 0 ∧ appE size [] n ⟨#[]⟩ = 0 := by
  have ha : admE [] n = 0 := by unfold admE; rw [if_pos hn]; simp
  refine ⟨?_, ?_⟩
  · unfold appL
    rw [if_pos ha]
    simp [abytes, asafe, alook, aput, adel, ains, one]
  · unfold appE
    rw [if_pos ha]
    exact if_pos (Nat.zero_le _)
theorem one_appNil (n : ByteArray) (hn : nameB n = true) (size : Nat) (bs : List UInt8) (safe : Nat) : appL size (one n bs safe) n ⟨#[]⟩ = one n bs safe ∧ appE size (one n bs safe) n ⟨#[]⟩ = 0 := by
  refine ⟨?_, ?_⟩
  · rw [one_appL n hn]; simp
  · rw [one_appE n hn]
    exact if_pos (Nat.zero_le _)
theorem one_cut (n : ByteArray) (bs : List UInt8) (safe i : Nat) (hi : i ≤ bs.length) : cutL (one n bs safe) n (i : Int) = one n (bs.take i) (min safe i) ∧ cutE (one n bs safe) n (i : Int) = 0 := by
  refine ⟨?_, ?_⟩
  · unfold cutL
    rw [if_pos ⟨by rw [one_look]; rfl, by omega, by rw [one_bytes]; omega⟩, one_bytes, one_safe, one_put, Int.toNat_natCast]
  · unfold cutE
    rw [if_pos (by rw [one_look]; rfl), if_pos ⟨by omega, by rw [one_bytes]; omega⟩]
theorem one_syn (n : ByteArray) (bs : List UInt8) (safe : Nat) : synL (one n bs safe) n = one n bs bs.length ∧ synE (one n bs safe) n = 0 := by
  refine ⟨?_, ?_⟩
  · unfold synL
    rw [if_pos (by rw [one_look]; rfl), one_bytes, one_put]
  · unfold synE
    rw [if_pos (by rw [one_look]; rfl)]
/-- A batch that fits is added whole, or the disk is cut back to what it was. -/
theorem one_add (n : ByteArray) (hn : nameB n = true) (size : Nat) (bs : List UInt8) (safe : Nat) (l : List UInt8) (hs : safe ≤ bs.length) :
    (l.length ≤ size - bs.length → appE size (one n bs safe) n (strOf l) = 0 ∧ appL size (one n bs safe) n (strOf l) = one n (bs ++ l) safe) ∧
    (¬ l.length ≤ size - bs.length → appE size (one n bs safe) n (strOf l) = 7 ∧ cutL (appL size (one n bs safe) n (strOf l)) n (bs.length : Int) = one n bs safe) := by
  have hz := strOf_size l
  have hd := strOf_data l
  refine ⟨fun h => ⟨?_, ?_⟩, fun h => ⟨?_, ?_⟩⟩
  · rw [one_appE n hn, hz, if_pos h]
  · rw [one_appL n hn, hz, hd, Nat.min_eq_left h, List.take_of_length_le (Nat.le_refl _)]
  · rw [one_appE n hn, hz, if_neg h]
  · rw [one_appL n hn, (one_cut n _ safe bs.length (by simp)).1, Nat.min_eq_left hs]
    simp
end Go.Proofs.Ytlgaianlkbaedaa

/- A segment said by its batches. -/
namespace Go.Proofs.Ytlgaianlkbaedaa
open Go.RowKit Go.Maps Go.Sort
set_option linter.unusedSimpArgs false
set_option linter.unusedVariables false

/-- A segment of these batches, on a disk with no other file. -/
structure SB (w : World) (B : Nat → Prop) (q a base : Nat) (name : ByteArray) (size : Nat) (bs : List Bat) (safe : Nat) : Prop where
  sd : SD w B q a base name (endM ⟨base, 0, 0⟩ bs) (idxM ⟨base, 0, 0⟩ [] bs) size (one name (fileL bs) safe)
  fits : Fits ⟨base, 0, 0⟩ bs
  safe : safe ≤ (fileL bs).length
  name : nameB name = true
  base : base ≤ 1000000000
theorem name_le {n : ByteArray} (h : nameB n = true) : n.size ≤ maxLen := by
  unfold nameB at h
  simp at h
  unfold maxLen
  omega
theorem fits_bound : ∀ (bs : List Bat) (m : Mk), Fits m bs → m.base ≤ 1000000000 → m.nth ≤ 4096 → (endM m bs).base ≤ 1000000000 ∧ (endM m bs).nth ≤ 4096
  | [], m, _, h1, h2 => ⟨h1, h2⟩
  | b :: r, m, h, h1, h2 => fits_bound r _ h.2.2.2.2 h.2.2.1 h.2.2.2.1
theorem fits_take (bs : List Bat) (m : Mk) (t : Nat) (h : Fits m bs) : Fits m (bs.take t) := by
  rw [← List.take_append_drop t bs] at h
  exact ((fits_append _ _ _).1 h).1
theorem fileL_take_le (bs : List Bat) (t : Nat) : (fileL (bs.take t)).length ≤ (fileL bs).length := by
  conv => rhs; rw [← List.take_append_drop t bs, fileL_append, List.length_append]
  omega
theorem SB.len {w B q a base name size bs safe} (h : SB w B q a base name size bs safe) : (fileL bs).length ≤ 16777216 := by
  have := h.sd.small
  rw [one_bytes] at this
  exact this
theorem SB.marks {w B q a base name size bs safe} (h : SB w B q a base name size bs safe) : ∀ x ∈ idxM ⟨base, 0, 0⟩ [] bs, x.base ≤ 1000000000 ∧ x.at_ ≤ (fileL bs).length ∧ x.nth ≤ 4096 := fun x hx => by
  rcases idxM_mem bs _ _ x hx with h1 | ⟨t, h1, h2⟩
  · cases h1
  · have hb := fits_bound (bs.take t) _ (fits_take bs _ t h.fits) h.base (Nat.zero_le _)
    have ha := endM_at (bs.take t) ⟨base, 0, 0⟩
    have hl := fileL_take_le bs t
    subst h2
    exact ⟨hb.1, by rw [ha]; simp; exact hl, hb.2⟩
theorem SB.many {w B q a base name size bs safe} (h : SB w B q a base name size bs safe) : (idxM ⟨base, 0, 0⟩ [] bs).length ≤ 5000 ∧ bs.length ≤ 4096 := by
  have hb := fits_bound bs _ h.fits h.base (Nat.zero_le _)
  have hn := endM_nth bs ⟨base, 0, 0⟩
  have hl := idxM_len bs ⟨base, 0, 0⟩ []
  simp at hn hl
  omega
theorem SB.ends {w B q a base name size bs safe} (h : SB w B q a base name size bs safe) : (endM ⟨base, 0, 0⟩ bs).base ≤ 1000000000 ∧ (endM ⟨base, 0, 0⟩ bs).at_ ≤ 100000000 ∧ (endM ⟨base, 0, 0⟩ bs).nth ≤ 4096 := by
  have hb := fits_bound bs _ h.fits h.base (Nat.zero_le _)
  have ha := endM_at bs ⟨base, 0, 0⟩
  have hl := h.len
  exact ⟨hb.1, by rw [ha]; simp; omega, hb.2⟩
/-- Append of a batch that fits, where there is room. -/
theorem SB.append {w : World} {B q a base name size bs safe} (h : SB w B q a base name size bs safe) (b : Bat) (ra : Option Addr) (rc : Nat) (hr : Recs w (.slice ra b.recs.length rc) b.recs) (hi : b.ints) (hF : Fits (endM ⟨base, 0, 0⟩ bs) [b]) (hroom : (batchL b).1.length ≤ size - (fileL bs).length) :
    Calls Try.prog 14 #[.pointer (some ⟨q, 0, none⟩), .agg #[.int .i64 b.base, .int .i64 b.epoch, .int .i64 b.pid, .int .i64 b.pidEpoch, .int .i64 b.seq, .slice ra b.recs.length rc]] w fun e w' => e = .returned (.int .i64 0) ∧ (∃ B', SB w' B' q a base name size (bs ++ [b]) safe ∧ (∀ k, B' k → B k ∨ w.heap.size ≤ k) ∧ (∀ k, B k → B' k)) ∧ Keeps B w w' := by
  obtain ⟨h1, h2, h3, h4, _⟩ := hF
  have ho := (one_add name h.name size (fileL bs) safe (batchL b).1 h.safe).1 hroom
  refine (sapp_yes h.sd h.ends b ra rc hr hi h1 h2 (by omega) (by omega) (name_le h.name) h.many.1 (fun x hx => by have := (h.marks x hx).2.1; have := h.len; omega) ho.1).mono fun e w' ⟨e1, B', g1, g2, g3, g4⟩ => ⟨e1, ⟨B', ⟨?_, ?_, ?_, h.name, h.base⟩, g2, g3⟩, g4⟩
  · rw [ho.2] at g1
    rw [endM_append, idxM_append, fileL_append]
    simpa [endM, idxM, fileL] using g1
  · exact (fits_append _ _ _).2 ⟨h.fits, h1, h2, h3, h4, trivial⟩
  · have := h.safe
    rw [fileL_append, List.length_append]; omega
/-- Append where there is not. -/
theorem SB.full {w : World} {B q a base name size bs safe} (h : SB w B q a base name size bs safe) (b : Bat) (ra : Option Addr) (rc : Nat) (hr : Recs w (.slice ra b.recs.length rc) b.recs) (hi : b.ints) (hF : Fits (endM ⟨base, 0, 0⟩ bs) [b]) (hroom : ¬ (batchL b).1.length ≤ size - (fileL bs).length) :
    Calls Try.prog 14 #[.pointer (some ⟨q, 0, none⟩), .agg #[.int .i64 b.base, .int .i64 b.epoch, .int .i64 b.pid, .int .i64 b.pidEpoch, .int .i64 b.seq, .slice ra b.recs.length rc]] w fun e w' => e = .returned (.int .i64 7) ∧ (∃ B', SB w' B' q a base name size bs safe ∧ (∀ k, B' k → B k ∨ w.heap.size ≤ k) ∧ (∀ k, B k → B' k)) ∧ Keeps B w w' := by
  obtain ⟨h1, h2, h3, h4, _⟩ := hF
  have ho := (one_add name h.name size (fileL bs) safe (batchL b).1 h.safe).2 hroom
  refine (sapp_full h.sd h.ends b ra rc hr hi h1 h2 (by omega) (by omega) (name_le h.name) (by rw [ho.1]; decide)).mono fun e w' ⟨e1, B', g1, g2, g3, g4⟩ => ⟨by rw [e1, ho.1]; rfl, ⟨B', ⟨?_, h.fits, h.safe, h.name, h.base⟩, g2, g3⟩, g4⟩
  rw [one_bytes, ho.2] at g1
  exact g1
/-- Sync. -/
theorem SB.sync {w : World} {B q a base name size bs safe} (h : SB w B q a base name size bs safe) :
    Calls Try.prog 15 #[.pointer (some ⟨q, 0, none⟩)] w fun e w' => e = .returned (.int .i64 0) ∧ (∃ B', SB w' B' q a base name size bs (fileL bs).length ∧ (∀ k, B' k → B k ∨ w.heap.size ≤ k) ∧ (∀ k, B k → B' k)) ∧ Keeps B w w' := by
  have ho := one_syn name (fileL bs) safe
  refine (ssync_any h.sd (name_le h.name)).mono fun e w' ⟨e1, B', g1, g2, g3, g4⟩ => ⟨by rw [e1, ho.2]; rfl, ⟨B', ⟨?_, h.fits, Nat.le_refl _, h.name, h.base⟩, g2, g3⟩, g4⟩
  rw [ho.1] at g1
  exact g1
/-- Open of a file of whole batches and a torn rest. -/
theorem sb_open {w : World} {S : Nat → Prop} {a size : Nat} {name : ByteArray} {safe : Nat} (base : Nat) (bs : List Bat) (rest : List UInt8) (hD : DiskA w S a size (one name (fileL bs ++ rest) safe)) (hn : nameB name = true) (hbase : base ≤ 1000000000) (hF : Fits ⟨base, 0, 0⟩ bs) (hR : ∀ m, stepL m rest = none) :
    Calls Try.prog 10 #[.pointer (some ⟨a, 0, none⟩), .string name, .int .i64 (base : Int)] w fun e w' => ∃ q B, e = .returned (.tuple #[.pointer (some ⟨q, 0, none⟩), .int .i64 (rest.length : Int), .int .i64 0]) ∧ w.heap.size ≤ q ∧ SB w' B q a base name size bs (fileL bs).length ∧ (∀ k, B k → S k ∨ w.heap.size ≤ k) ∧ (∀ k, S k → B k) ∧ Keeps S w w' := by
  have hN := one_appNil name hn size (fileL bs ++ rest) safe
  have hge := fileL_length_ge bs _ hF
  have hL := loadL_file bs ⟨base, 0, 0⟩ [] rest ((fileL bs ++ rest).length + 1) hF (hR _) (by simp; omega)
  refine (open_yes hD name (name_le hn) base hbase hN.2 (l := fileL bs ++ rest) (by rw [hN.1, one_bytes]) hL).mono fun e w' hp => ?_
  obtain ⟨q, B, g1, g2, g3, g4, g5, g6⟩ := hp
  refine ⟨q, B, g1, g2, ⟨?_, hF, Nat.le_refl _, hn, hbase⟩, g4, g5, g6⟩
  have hat := endM_at bs ⟨base, 0, 0⟩
  simp only [Nat.zero_add] at hat
  have hc := (one_cut name (fileL bs ++ rest) safe (fileL bs).length (by simp)).1
  simp only [hat] at g3
  rw [hN.1, hc, (one_syn _ _ _).1] at g3
  simpa using g3
end Go.Proofs.Ytlgaianlkbaedaa

/- Read, Safe and Next, said by batches. -/
namespace Go.Proofs.Ytlgaianlkbaedaa
open Go.RowKit Go.Maps Go.Sort
set_option linter.unusedSimpArgs false
set_option linter.unusedVariables false

theorem endM_mono (bs : List Bat) (m : Mk) (i j : Nat) (h : i ≤ j) : (endM m (bs.take i)).base ≤ (endM m (bs.take j)).base ∧ (endM m (bs.take i)).at_ ≤ (endM m (bs.take j)).at_ := by
  obtain ⟨d, rfl⟩ : ∃ d, j = i + d := ⟨j - i, by omega⟩
  rw [← endM_split]
  refine ⟨endM_base _ _, ?_⟩
  rw [endM_at ((bs.drop i).take d)]
  omega
/-- What Read of an offset within tells. -/
theorem SB.read {w : World} {B q a base name size bs safe} (h : SB w B q a base name size bs safe) (off most : Int) (ho : (base : Int) ≤ off) (ho2 : off < ((endM ⟨base, 0, 0⟩ bs).base : Int)) (hmo : -9223372036854775808 ≤ most ∧ most ≤ 9223372036854775807) :
    Calls Try.prog 18 #[.pointer (some ⟨q, 0, none⟩), .int .i64 off, .int .i64 most] w fun e w' => ∃ n ps rv, n < bs.length ∧ off < ((endM ⟨base, 0, 0⟩ (bs.take (n + 1))).base : Int) ∧ (∀ j, 0 < j → j ≤ n → ((endM ⟨base, 0, 0⟩ (bs.take j)).base : Int) ≤ off) ∧ e = .returned rv ∧ BL w' w.heap.size rv ps ∧ ps.map Prod.fst = takeB most ((endM ⟨base, 0, 0⟩ (bs.take n)).at_ : Int) false (endM ⟨base, 0, 0⟩ (bs.take n)) (bs.drop n) ∧ Below w.heap.size w w' := by
  have hne : bs ≠ [] := fun e => by subst e; simp [endM] at ho2; omega
  have hkey : ∀ R, SeekAny (fun x => decide (off < (x.base : Int))) base (endM ⟨base, 0, 0⟩ bs) (idxM ⟨base, 0, 0⟩ [] bs) (fileL bs) R → ∃ n, n < bs.length ∧ R = (endM ⟨base, 0, 0⟩ (bs.take n), fileL (bs.drop n)) ∧ decide (off < ((endM ⟨base, 0, 0⟩ (bs.take (n + 1))).base : Int)) = true ∧ ∀ j, 0 < j → j ≤ n → decide (off < ((endM ⟨base, 0, 0⟩ (bs.take j)).base : Int)) = false := fun R hR => by
    rcases hR with ⟨h1, _⟩ | ⟨_, h1⟩
    · simp at h1; omega
    · refine seekAt_file h.fits (fun i j hij hj hP => ?_) (by simpa using ho2) hne h1
      have := (endM_mono bs ⟨base, 0, 0⟩ i j hij).1
      simp at hP ⊢
      omega
  have hnil : ∀ m', stepL m' [] = none := fun m' => stepL_none5 (by rw [batchL_nil]; decide)
  refine (sread_yes h.sd (name_le h.name) off most ho ho2 hmo h.base h.many.1 (l := fileL bs) (by rw [one_bytes]) h.marks (fun R hR => ?_)).mono fun e w' hp => ?_
  · obtain ⟨n, g1, rfl, _, _⟩ := hkey R hR
    have hb := fits_bound (bs.take n) _ (fits_take bs _ n h.fits) h.base (Nat.zero_le _)
    have ha := endM_at (bs.take n) ⟨base, 0, 0⟩
    have hl := h.len
    have hs : (fileL bs).length = (fileL (bs.take n)).length + (fileL (bs.drop n)).length := by
      conv => lhs; rw [← List.take_append_drop n bs, fileL_append, List.length_append]
    refine ⟨hb.1, hb.2, ?_⟩
    simp only at ha ⊢
    omega
  · obtain ⟨R, ps, rv, g1, g2, g3, g4, g5⟩ := hp
    obtain ⟨n, n1, rfl, n2, n3⟩ := hkey R g1
    refine ⟨n, ps, rv, n1, by simpa using n2, fun j j1 j2 => by simpa using n3 j j1 j2, g2, g3, ?_, g5⟩
    rw [g4]
    have hFd := fits_drop bs _ n h.fits
    have := readLs_file most ((endM ⟨base, 0, 0⟩ (bs.take n)).at_ : Int) [] (bs.drop n) false (endM ⟨base, 0, 0⟩ (bs.take n)) ((fileL (bs.drop n)).length + 1) hFd (hnil _) (by have := fileL_length_ge _ _ hFd; omega)
    simpa using this
/-- Next. -/
theorem SB.next {w : World} {B q a base name size bs safe} (h : SB w B q a base name size bs safe) :
    Calls Try.prog 12 #[.pointer (some ⟨q, 0, none⟩)] w fun e w' => e = .returned (.int .i64 ((endM ⟨base, 0, 0⟩ bs).base : Int)) ∧ w' = w := by
  obtain ⟨U, S, v, h1, _⟩ := h.sd
  exact snext_any h1
/-- Safe. -/
theorem SB.safeAll {w : World} {B q a base name size bs safe} (h : SB w B q a base name size bs safe) (hs : safe = (fileL bs).length) :
    Calls Try.prog 17 #[.pointer (some ⟨q, 0, none⟩)] w fun e w' => e = .returned (.int .i64 ((endM ⟨base, 0, 0⟩ bs).base : Int)) ∧ Below w.heap.size w w' := by
  refine ssafe_no h.sd (name_le h.name) ?_
  have ha := endM_at bs ⟨base, 0, 0⟩
  rw [one_safe]
  simp at ha ⊢
  omega
end Go.Proofs.Ytlgaianlkbaedaa

/- Cut, said by batches. -/
namespace Go.Proofs.Ytlgaianlkbaedaa
open Go.RowKit Go.Maps Go.Sort
set_option linter.unusedSimpArgs false
set_option linter.unusedVariables false

theorem idxM_ext : ∀ (cs : List Bat) (m : Mk) (ix : List Mk), ∃ L, idxM m ix cs = ix ++ L ∧ ∀ x ∈ L, m.at_ ≤ x.at_
  | [], m, ix => ⟨[], by simp [idxM], fun x hx => by cases hx⟩
  | b :: r, m, ix => by
    obtain ⟨L, h1, h2⟩ := idxM_ext r (m.next b.recs.length (batchL b).1.length) (addL ix m)
    simp only [idxM]
    rw [h1]
    unfold addL
    have h3 : ∀ x ∈ L, m.at_ ≤ x.at_ := fun x hx => by have := h2 x hx; simp [Mk.next] at this; omega
    split
    · refine ⟨m :: L, by simp, fun x hx => ?_⟩
      rcases List.mem_cons.1 hx with rfl | hx
      · exact Nat.le_refl _
      · exact h3 x hx
    · exact ⟨L, rfl, h3⟩
theorem idxM_lt (bs : List Bat) (m : Mk) (hF : Fits m bs) : ∀ x ∈ idxM m [] bs, x.at_ < (endM m bs).at_ := fun x hx => by
  rcases idxM_mem bs m [] x hx with h1 | ⟨t, h1, rfl⟩
  · cases h1
  · have hd := fits_drop bs m t hF
    have hge := fileL_length_ge _ _ hd
    have hs : (fileL bs).length = (fileL (bs.take t)).length + (fileL (bs.drop t)).length := by
      conv => lhs; rw [← List.take_append_drop t bs, fileL_append, List.length_append]
    rw [endM_at, endM_at]
    simp at hge
    omega
/-- The index of the first t batches is what of the index lies ahead of their end. -/
theorem idxM_cut (bs : List Bat) (m : Mk) (hF : Fits m bs) (t n : Nat) (T : Int) (hT : T = ((endM m (bs.take t)).at_ : Int)) (h1 : n ≤ (idxM m [] bs).length) (h2 : n = 0 ∨ ∃ x, (idxM m [] bs)[n - 1]? = some x ∧ 0 < n ∧ decide (T ≤ (x.at_ : Int)) = false) (h3 : ∀ x, (idxM m [] bs)[n]? = some x → decide (T ≤ (x.at_ : Int)) = true) : (idxM m [] bs).take n = idxM m [] (bs.take t) := by
  have hlt := idxM_lt (bs.take t) m (fits_take bs m t hF)
  obtain ⟨L, e1, e2⟩ := idxM_ext (bs.drop t) (endM m (bs.take t)) (idxM m [] (bs.take t))
  have e : idxM m [] bs = idxM m [] (bs.take t) ++ L := by
    rw [← e1, ← idxM_append, List.take_append_drop]
  generalize idxM m [] (bs.take t) = I at *
  rw [e] at h1 h2 h3 ⊢
  subst hT
  have hn : n = I.length := by
    rcases Nat.lt_trichotomy n I.length with h | h | h
    · have hx : (I ++ L)[n]? = some I[n] := by rw [List.getElem?_append_left h]; exact List.getElem?_eq_getElem h
      have := h3 _ hx
      have h5 := hlt _ (List.getElem_mem h)
      simp at this
      omega
    · exact h
    · rcases h2 with h2 | ⟨x, h2, h4, h5⟩
      · omega
      · rw [List.getElem?_append_right (by omega)] at h2
        have := e2 x (List.mem_of_getElem? h2)
        simp at h5
        omega
  subst hn
  simp
/-- Cut. -/
theorem SB.cut {w : World} {B q a base name size bs safe} (h : SB w B q a base name size bs safe) (off : Int) (ho : (base : Int) ≤ off) :
    Calls Try.prog 22 #[.pointer (some ⟨q, 0, none⟩), .int .i64 off] w fun e w' => e = .returned (.int .i64 0) ∧ ∃ n safe', n ≤ bs.length ∧ (n < bs.length → off < ((endM ⟨base, 0, 0⟩ (bs.take (n + 1))).base : Int)) ∧ (∀ j, 0 < j → j ≤ n → ((endM ⟨base, 0, 0⟩ (bs.take j)).base : Int) ≤ off) ∧ (∃ B', SB w' B' q a base name size (bs.take n) safe' ∧ (∀ k, B' k → B k ∨ w.heap.size ≤ k) ∧ (∀ k, B k → B' k)) ∧ Keeps B w w' := by
  have hmonoB : ∀ i j, i ≤ j → (endM ⟨base, 0, 0⟩ (bs.take i)).base ≤ (endM ⟨base, 0, 0⟩ (bs.take j)).base := fun i j hij => (endM_mono bs ⟨base, 0, 0⟩ i j hij).1
  have hkey : ∀ R, SeekAny (fun x => decide (off < (x.base : Int))) base (endM ⟨base, 0, 0⟩ bs) (idxM ⟨base, 0, 0⟩ [] bs) (fileL bs) R → ∃ n, n ≤ bs.length ∧ R.1 = endM ⟨base, 0, 0⟩ (bs.take n) ∧ (n < bs.length → off < ((endM ⟨base, 0, 0⟩ (bs.take (n + 1))).base : Int)) ∧ ∀ j, 0 < j → j ≤ n → ((endM ⟨base, 0, 0⟩ (bs.take j)).base : Int) ≤ off := fun R hR => by
    rcases hR with ⟨h1, rfl⟩ | ⟨h0, h1⟩
    · refine ⟨bs.length, Nat.le_refl _, by rw [List.take_length], fun h => by omega, fun j j1 j2 => ?_⟩
      have := hmonoB j bs.length j2
      rw [List.take_length] at this
      simp at h1
      omega
    · have h0' : off < ((endM ⟨base, 0, 0⟩ bs).base : Int) := by simpa using h0
      have hne : bs ≠ [] := fun e => by
        rw [e] at h0'
        have h5 : off < (base : Int) := h0'
        omega
      obtain ⟨n, n1, n2, n3, n4⟩ := seekAt_file h.fits (fun i j hij hj hP => by have := hmonoB i j hij; simp at hP ⊢; omega) h0 hne h1
      exact ⟨n, by omega, by rw [n2], fun _ => by simpa using n3, fun j j1 j2 => by simpa using n4 j j1 j2⟩
  have hatk : ∀ n, (endM ⟨base, 0, 0⟩ (bs.take n)).at_ = (fileL (bs.take n)).length := fun n => by rw [endM_at]; simp
  refine (scut_yes h.sd (name_le h.name) off ho h.base h.many.1 (l := fileL bs) (by rw [one_bytes]) h.marks (fun R hR => ?_)).mono fun e w' hp => ?_
  · obtain ⟨n, g1, g2, _, _⟩ := hkey R hR
    rw [g2, hatk]
    exact (one_cut name (fileL bs) safe _ (fileL_take_le bs n)).2
  · obtain ⟨e1, R, k, hR, k1, k2, k3, B', g1, g2, g3, g4⟩ := hp
    obtain ⟨n, n1, n2, n3, n4⟩ := hkey R hR
    refine ⟨e1, n, min safe (fileL (bs.take n)).length, n1, n3, n4, ⟨B', ⟨?_, fits_take bs _ n h.fits, Nat.min_le_right _ _, h.name, h.base⟩, g2, g3⟩, g4⟩
    rw [idxM_cut bs ⟨base, 0, 0⟩ h.fits n k (R.1.at_ : Int) (by rw [n2]) k1 k2 k3, n2, hatk, (one_cut name (fileL bs) safe _ (fileL_take_le bs n)).1] at g1
    have ht : (fileL bs).take (fileL (bs.take n)).length = fileL (bs.take n) := by
      conv => lhs; rw [← List.take_append_drop n bs, fileL_append]
      rw [List.take_append_drop n bs, List.take_left]
    rw [ht] at g1
    exact g1
end Go.Proofs.Ytlgaianlkbaedaa

