/- A crash of a disk of one file. -/
import Derived.Test.YtlgaianlkbaedaaH36
namespace Go.Proofs.Ytlgaianlkbaedaa
open Go.RowKit Go.Maps Go.Sort
set_option linter.unusedSimpArgs false
set_option linter.unusedVariables false

/-- What is left is a beginning with all that was safe. -/
theorem one_crash (n : ByteArray) (bs : List UInt8) (safe : Nat) (hs : safe ≤ bs.length) (ks : List Int) (hk : ∀ i m, keptN ks i m ≤ m) : ∃ k, safe ≤ k ∧ k ≤ bs.length ∧ crashL ks 0 (one n bs safe).length (one n bs safe) = one n (bs.take k) k := by
  show ∃ k, safe ≤ k ∧ k ≤ bs.length ∧ crashL ks 0 1 [⟨n.data.toList, bs, safe⟩] = one n (bs.take k) k
  unfold crashL
  by_cases h : bs.length = safe
  · rw [if_pos h]
    exact ⟨safe, Nat.le_refl _, hs, by rw [List.take_of_length_le (by omega)]; rfl⟩
  · rw [if_neg h]
    have := hk 0 (bs.length - safe)
    exact ⟨safe + keptN ks 0 (bs.length - safe), by omega, by omega, rfl⟩
end Go.Proofs.Ytlgaianlkbaedaa

/- The index rises; where batches stand. -/
namespace Go.Proofs.Ytlgaianlkbaedaa
open Go.RowKit Go.Maps Go.Sort
set_option linter.unusedSimpArgs false
set_option linter.unusedVariables false

def Rise (ix : List Mk) : Prop := ∀ i x y, ix[i]? = some x → ix[i + 1]? = some y → x.base < y.base ∧ x.at_ + 256 ≤ y.at_
theorem right_recs {b : Bat} (h : rightL b = 0) : 0 < b.recs.length := by
  rcases hb : b.recs with _ | ⟨r, rs⟩
  · unfold rightL at h
    rw [if_pos (by rw [hb]; simp)] at h
    exact absurd h (by decide)
  · simp
theorem rise_add {ix : List Mk} {m : Mk} (h : Rise ix) (hl : ∀ x, ix.getLast? = some x → x.base < m.base) : Rise (addL ix m) := by
  unfold addL
  split
  · rename_i hb
    intro i x y hx hy
    rcases Nat.lt_trichotomy (i + 1) ix.length with h1 | h1 | h1
    · rw [List.getElem?_append_left (by omega)] at hx
      rw [List.getElem?_append_left h1] at hy
      exact h i x y hx hy
    · rw [List.getElem?_append_left (by omega)] at hx
      rw [List.getElem?_append_right (by omega)] at hy
      have hz : i + 1 - ix.length = 0 := by omega
      rw [hz] at hy
      have hym : m = y := by simpa using hy
      have hlast : ix.getLast? = some x := by
        rw [List.getLast?_eq_getElem?, show ix.length - 1 = i by omega]
        exact hx
      unfold addB at hb
      rw [hlast] at hb
      have := hl x hlast
      simp at hb
      subst hym
      exact ⟨this, by omega⟩
    · rw [List.getElem?_eq_none (by simp; omega)] at hy
      cases hy
  · exact h
theorem last_add {ix : List Mk} {m : Mk} {k s : Nat} (hk : 0 < k) (hl : ∀ x, ix.getLast? = some x → x.base < m.base) : ∀ x, (addL ix m).getLast? = some x → x.base < (m.next k s).base := by
  intro x hx
  have hn : (m.next k s).base = m.base + k := rfl
  unfold addL at hx
  split at hx
  · rw [List.getLast?_append] at hx
    have : m = x := by simpa using hx
    subst this
    omega
  · have := hl x hx
    omega
theorem rise_idx : ∀ (bs : List Bat) (m : Mk) (ix : List Mk), Fits m bs → Rise ix → (∀ x, ix.getLast? = some x → x.base < m.base) → Rise (idxM m ix bs)
  | [], m, ix, _, h, _ => h
  | b :: r, m, ix, hF, h, hl => rise_idx r _ _ hF.2.2.2.2 (rise_add h hl) (last_add (right_recs hF.1) hl)
theorem rise_of (bs : List Bat) (m : Mk) (hF : Fits m bs) : Rise (idxM m [] bs) := rise_idx bs m [] hF (fun i x y h => by simp at h) (fun x h => by simp at h)
theorem idx_first (b : Bat) (r : List Bat) (m : Mk) : (idxM m [] (b :: r))[0]? = some m := by
  obtain ⟨L, h1, _⟩ := idxM_ext r (m.next b.recs.length (batchL b).1.length) [m]
  show (idxM (m.next b.recs.length (batchL b).1.length) [m] r)[0]? = some m
  rw [h1]
  rfl
/-- Where the batches of a file stand. -/
theorem fits_at (bs : List Bat) (m : Mk) (hF : Fits m bs) (i : Nat) (b : Bat) (hb : bs[i]? = some b) : b.base = ((endM m (bs.take i)).base : Int) ∧ (endM m (bs.take (i + 1))).base = (endM m (bs.take i)).base + b.recs.length ∧ rightL b = 0 ∧ 0 < b.recs.length := by
  have hd := fits_drop bs m i hF
  have hlt : i < bs.length := (List.getElem?_eq_some_iff.1 hb).1
  have hbe : bs[i] = b := (List.getElem?_eq_some_iff.1 hb).2
  rw [List.drop_eq_getElem_cons hlt, hbe] at hd
  refine ⟨hd.2.1, ?_, hd.1, right_recs hd.1⟩
  rw [List.take_add_one, hb, endM_append]
  rfl
theorem ends_le (bs : List Bat) (m : Mk) (n : Nat) (hn : ∀ b ∈ bs, b.recs.length ≤ n) : (endM m bs).base ≤ m.base + bs.length * n := by
  induction bs generalizing m with
  | nil => simp [endM]
  | cons b r ih =>
    have := ih (m.next b.recs.length (batchL b).1.length) (fun x hx => hn x (List.mem_cons_of_mem _ hx))
    have h2 := hn b (List.mem_cons_self ..)
    have h3 : (m.next b.recs.length (batchL b).1.length).base = m.base + b.recs.length := rfl
    show (endM (m.next b.recs.length (batchL b).1.length) r).base ≤ _
    rw [h3] at this
    rw [List.length_cons, Nat.add_mul]
    omega
end Go.Proofs.Ytlgaianlkbaedaa

/- A segment of a call's own: what others hold stays. -/
namespace Go.Proofs.Ytlgaianlkbaedaa
open Go.RowKit Go.Maps Go.Sort
set_option linter.unusedSimpArgs false
set_option linter.unusedVariables false

def sName : ByteArray := ⟨#[115]⟩
theorem sName_ok : nameB sName = true := by decide
/-- Blocks of others are as they were. -/
def KX (X : Nat → Prop) (w w' : World) : Prop := ∀ k, X k → w'.heap[k]? = w.heap[k]?
/-- A segment of batches, behind a world's end, and no block of it among X. -/
structure SO (w0 w : World) (X : Nat → Prop) (q a base size : Nat) (bs : List Bat) (safe : Nat) : Prop where
  sb : ∃ B, SB w B q a base sName size bs safe ∧ ∀ k, B k → w0.heap.size ≤ k ∧ ¬ X k
  xlt : ∀ k, X k → k < w.heap.size
  below : Below w0.heap.size w0 w
theorem SO.step {w0 w w' : World} {X B : Nat → Prop} {q a base size bs' safe'} (hB : ∀ k, B k → w0.heap.size ≤ k ∧ ¬ X k) (hx : ∀ k, X k → k < w.heap.size) (hb : Below w0.heap.size w0 w) (h : ∃ B', SB w' B' q a base sName size bs' safe' ∧ (∀ k, B' k → B k ∨ w.heap.size ≤ k) ∧ (∀ k, B k → B' k)) (hk : Keeps B w w') : SO w0 w' X q a base size bs' safe' ∧ KX X w w' ∧ w.heap.size ≤ w'.heap.size := by
  obtain ⟨B', h1, h2, _⟩ := h
  have hs := hk.size
  have hs0 := hb.size
  refine ⟨⟨⟨B', h1, fun k hk' => ?_⟩, fun k hk' => Nat.lt_of_lt_of_le (hx k hk') hs, hb.trans (hk.below hs0 (fun k hk' => (hB k hk').1))⟩, fun k hk' => hk.block k (hx k hk') (fun hB' => (hB k hB').2 hk'), hs⟩
  rcases h2 k hk' with h | h
  · exact hB k h
  · exact ⟨by omega, fun hX => by have := hx k hX; omega⟩
theorem SB.under {w w1 : World} {B q a base name size bs safe} (h : SB w B q a base name size bs safe) (hb : Below w.heap.size w w1) : SB w1 B q a base name size bs safe := ⟨h.sd.under hb, h.fits, h.safe, h.name, h.base⟩
theorem SO.under {w0 w w1 : World} {X : Nat → Prop} {q a base size bs safe} (h : SO w0 w X q a base size bs safe) (hb : Below w.heap.size w w1) : SO w0 w1 X q a base size bs safe := by
  obtain ⟨⟨B, h1, h2⟩, h3, h4⟩ := h
  exact ⟨⟨B, h1.under hb, h2⟩, fun k hk => Nat.lt_of_lt_of_le (h3 k hk) hb.size, h4.trans (hb.mono h4.size)⟩
/-- New blocks of others. -/
theorem SO.more {w0 w w1 : World} {X : Nat → Prop} {q a base size bs safe} (h : SO w0 w X q a base size bs safe) (hb : Below w.heap.size w w1) : SO w0 w1 (fun k => X k ∨ (w.heap.size ≤ k ∧ k < w1.heap.size)) q a base size bs safe := by
  have hu := h.under hb
  obtain ⟨⟨B, h1, h2⟩, h3, h4⟩ := h
  refine ⟨⟨B, h1.under hb, fun k hk => ⟨(h2 k hk).1, fun hX => ?_⟩⟩, fun k hk => ?_, hu.below⟩
  · rcases hX with hX | hX
    · exact (h2 k hk).2 hX
    · have := h1.sd.below k hk; omega
  · rcases hk with hk | hk
    · exact Nat.lt_of_lt_of_le (h3 k hk) hb.size
    · exact hk.2
theorem SO.less {w0 w : World} {X Y : Nat → Prop} {q a base size bs safe} (h : SO w0 w X q a base size bs safe) (hY : ∀ k, Y k → X k) : SO w0 w Y q a base size bs safe := by
  obtain ⟨⟨B, h1, h2⟩, h3, h4⟩ := h
  exact ⟨⟨B, h1, fun k hk => ⟨(h2 k hk).1, fun hX => (h2 k hk).2 (hY k hX)⟩⟩, fun k hk => h3 k (hY k hk), h4⟩
theorem SO.rebase {w0 w1 w : World} {X : Nat → Prop} {q a base size bs safe} (h : SO w1 w X q a base size bs safe) (hb : Below w0.heap.size w0 w1) : SO w0 w X q a base size bs safe := by
  obtain ⟨⟨B, h1, h2⟩, h3, h4⟩ := h
  exact ⟨⟨B, h1, fun k hk => ⟨Nat.le_trans hb.size (h2 k hk).1, (h2 k hk).2⟩⟩, h3, hb.trans (h4.mono hb.size)⟩
theorem SO.fits {w0 w : World} {X : Nat → Prop} {q a base size bs safe} (h : SO w0 w X q a base size bs safe) : Fits ⟨base, 0, 0⟩ bs := by
  obtain ⟨⟨B, h1, h2⟩, h3, h4⟩ := h
  exact h1.fits
theorem SO.lens {w0 w : World} {X : Nat → Prop} {q a base size bs safe} (h : SO w0 w X q a base size bs safe) : bs.length ≤ 4096 ∧ (fileL bs).length ≤ 16777216 ∧ safe ≤ (fileL bs).length ∧ (endM ⟨base, 0, 0⟩ bs).base ≤ 1000000000 ∧ base ≤ 1000000000 := by
  obtain ⟨⟨B, h1, h2⟩, h3, h4⟩ := h
  exact ⟨h1.many.2, h1.len, h1.safe, h1.ends.1, h1.base⟩
/-- Small batches. -/
def Smalls (bs : List Bat) : Prop := ∀ b ∈ bs, b.recs.length ≤ 30 ∧ (batchL b).1.length ≤ 1028
theorem Smalls.file : ∀ {bs : List Bat}, Smalls bs → (fileL bs).length ≤ bs.length * 1028
  | [], _ => by simp [fileL]
  | b :: r, h => by
    have := Smalls.file (bs := r) (fun x hx => h x (List.mem_cons_of_mem _ hx))
    have h2 := (h b (List.mem_cons_self ..)).2
    simp only [fileL, List.length_append, List.length_cons]
    omega
theorem Smalls.ends {bs : List Bat} (h : Smalls bs) (base : Nat) : (endM ⟨base, 0, 0⟩ bs).base ≤ base + bs.length * 30 := ends_le bs _ 30 (fun b hb => (h b hb).1)
theorem Smalls.nil : Smalls [] := fun b hb => by cases hb
theorem Smalls.push {bs : List Bat} (h : Smalls bs) (base n : Nat) (h1 : 1 ≤ n) (h2 : n ≤ 30) (h3 : base + n ≤ 1000000000) : Smalls (bs ++ [smallB base n]) := fun b hb => by
  rcases List.mem_append.1 hb with hb | hb
  · exact h b hb
  · have e : b = smallB base n := by simpa using hb
    subst e
    have := smallB_len base n h1 h2 h3
    refine ⟨by simp [smallB]; exact h2, by omega⟩
theorem smallB_ints (base n : Nat) (h : base ≤ 1000000000) : (smallB base n).ints := by
  constructor <;> simp [smallB, I64] <;> omega
/-- Append of a small batch. -/
theorem SO.append {w0 w : World} {X : Nat → Prop} {q a base size bs safe} (h : SO w0 w X q a base size bs safe) (N : Int) (hN : N = ((endM ⟨base, 0, 0⟩ bs).base : Int)) (n : Nat) (h1 : 1 ≤ n) (h2 : n ≤ 30) (h3 : (endM ⟨base, 0, 0⟩ bs).base + n ≤ 1000000000) (h4 : bs.length + 1 ≤ 4096) (rv : Value) (hr : Recs w rv (List.replicate n smallR)) (hroom : (batchL (smallB (endM ⟨base, 0, 0⟩ bs).base n)).1.length ≤ size - (fileL bs).length) :
    Calls Try.prog 14 #[.pointer (some ⟨q, 0, none⟩), .agg #[.int .i64 N, .int .i64 1, .int .i64 0, .int .i64 0, .int .i64 0, rv]] w fun e w' => e = .returned (.int .i64 0) ∧ SO w0 w' X q a base size (bs ++ [smallB (endM ⟨base, 0, 0⟩ bs).base n]) safe ∧ KX X w w' ∧ w.heap.size ≤ w'.heap.size := by
  subst hN
  obtain ⟨⟨B, g1, g2⟩, g3, g4⟩ := h
  obtain ⟨ra, rc, rfl, _⟩ := hr.shape
  have hn := endM_nth bs ⟨base, 0, 0⟩
  simp only [Nat.zero_add] at hn
  refine (g1.append (smallB (endM ⟨base, 0, 0⟩ bs).base n) ra rc (by simpa [smallB] using hr) (smallB_ints _ _ (by omega)) (smallB_fits _ n h1 h2 h3 (by omega)) hroom).mono fun e w' ⟨e1, e2, e3⟩ => ⟨e1, ?_⟩
  exact SO.step g2 g3 g4 e2 e3
/-- Where there is no room. -/
theorem SO.full {w0 w : World} {X : Nat → Prop} {q a base size bs safe} (h : SO w0 w X q a base size bs safe) (N : Int) (hN : N = ((endM ⟨base, 0, 0⟩ bs).base : Int)) (n : Nat) (h1 : 1 ≤ n) (h2 : n ≤ 30) (h3 : (endM ⟨base, 0, 0⟩ bs).base + n ≤ 1000000000) (h4 : bs.length + 1 ≤ 4096) (rv : Value) (hr : Recs w rv (List.replicate n smallR)) (hroom : ¬ (batchL (smallB (endM ⟨base, 0, 0⟩ bs).base n)).1.length ≤ size - (fileL bs).length) :
    Calls Try.prog 14 #[.pointer (some ⟨q, 0, none⟩), .agg #[.int .i64 N, .int .i64 1, .int .i64 0, .int .i64 0, .int .i64 0, rv]] w fun e w' => e = .returned (.int .i64 7) ∧ SO w0 w' X q a base size bs safe ∧ KX X w w' ∧ w.heap.size ≤ w'.heap.size := by
  subst hN
  obtain ⟨⟨B, g1, g2⟩, g3, g4⟩ := h
  obtain ⟨ra, rc, rfl, _⟩ := hr.shape
  have hn := endM_nth bs ⟨base, 0, 0⟩
  simp only [Nat.zero_add] at hn
  refine (g1.full (smallB (endM ⟨base, 0, 0⟩ bs).base n) ra rc (by simpa [smallB] using hr) (smallB_ints _ _ (by omega)) (smallB_fits _ n h1 h2 h3 (by omega)) hroom).mono fun e w' ⟨e1, e2, e3⟩ => ⟨e1, ?_⟩
  exact SO.step g2 g3 g4 e2 e3
theorem SO.sync {w0 w : World} {X : Nat → Prop} {q a base size bs safe} (h : SO w0 w X q a base size bs safe) :
    Calls Try.prog 15 #[.pointer (some ⟨q, 0, none⟩)] w fun e w' => e = .returned (.int .i64 0) ∧ SO w0 w' X q a base size bs (fileL bs).length ∧ KX X w w' ∧ w.heap.size ≤ w'.heap.size := by
  obtain ⟨⟨B, g1, g2⟩, g3, g4⟩ := h
  exact g1.sync.mono fun e w' ⟨e1, e2, e3⟩ => ⟨e1, SO.step g2 g3 g4 e2 e3⟩
theorem SO.next {w0 w : World} {X : Nat → Prop} {q a base size bs safe} (h : SO w0 w X q a base size bs safe) :
    Calls Try.prog 12 #[.pointer (some ⟨q, 0, none⟩)] w fun e w' => e = .returned (.int .i64 ((endM ⟨base, 0, 0⟩ bs).base : Int)) ∧ w' = w := by
  obtain ⟨⟨B, g1, g2⟩, g3, g4⟩ := h
  exact g1.next
theorem SO.safeAll {w0 w : World} {X : Nat → Prop} {q a base size bs safe} (h : SO w0 w X q a base size bs safe) (hs : safe = (fileL bs).length) :
    Calls Try.prog 17 #[.pointer (some ⟨q, 0, none⟩)] w fun e w' => e = .returned (.int .i64 ((endM ⟨base, 0, 0⟩ bs).base : Int)) ∧ Below w.heap.size w w' := by
  obtain ⟨⟨B, g1, g2⟩, g3, g4⟩ := h
  exact g1.safeAll hs
theorem SO.index {w0 w : World} {X : Nat → Prop} {q a base size bs safe} (h : SO w0 w X q a base size bs safe) :
    Calls Try.prog 23 #[.pointer (some ⟨q, 0, none⟩)] w fun e w' => ∃ rv, e = .returned rv ∧ w'.ownsRow w.heap.size 53 3 rv (idxM ⟨base, 0, 0⟩ [] bs).length (flatE (idxM ⟨base, 0, 0⟩ [] bs)) ∧ Below w.heap.size w w' := by
  obtain ⟨⟨B, g1, g2⟩, g3, g4⟩ := h
  exact g1.index
theorem SO.cut {w0 w : World} {X : Nat → Prop} {q a base size bs safe} (h : SO w0 w X q a base size bs safe) (off : Int) (ho : (base : Int) ≤ off) :
    Calls Try.prog 22 #[.pointer (some ⟨q, 0, none⟩), .int .i64 off] w fun e w' => e = .returned (.int .i64 0) ∧ ∃ n safe', n ≤ bs.length ∧ (n < bs.length → off < ((endM ⟨base, 0, 0⟩ (bs.take (n + 1))).base : Int)) ∧ (∀ j, 0 < j → j ≤ n → ((endM ⟨base, 0, 0⟩ (bs.take j)).base : Int) ≤ off) ∧ SO w0 w' X q a base size (bs.take n) safe' ∧ KX X w w' ∧ w.heap.size ≤ w'.heap.size := by
  obtain ⟨⟨B, g1, g2⟩, g3, g4⟩ := h
  exact (g1.cut off ho).mono fun e w' ⟨e1, n, s', n1, n2, n3, e2, e3⟩ => ⟨e1, n, s', n1, n2, n3, SO.step g2 g3 g4 e2 e3⟩
/-- Read of what is behind the end. -/
theorem SO.readNo {w0 w : World} {X : Nat → Prop} {q a base size bs safe} (h : SO w0 w X q a base size bs safe) (off most : Int) (ho : ((endM ⟨base, 0, 0⟩ bs).base : Int) ≤ off) :
    Calls Try.prog 18 #[.pointer (some ⟨q, 0, none⟩), .int .i64 off, .int .i64 most] w fun e w' => e = .returned (.slice none 0 0) ∧ Below w.heap.size w w' := by
  obtain ⟨⟨B, g1, g2⟩, g3, g4⟩ := h
  exact sread_no g1.sd off most (.inr ho)
theorem SO.read {w0 w : World} {X : Nat → Prop} {q a base size bs safe} (h : SO w0 w X q a base size bs safe) (off most : Int) (ho : (base : Int) ≤ off) (ho2 : off < ((endM ⟨base, 0, 0⟩ bs).base : Int)) (hmo : -9223372036854775808 ≤ most ∧ most ≤ 9223372036854775807) :
    Calls Try.prog 18 #[.pointer (some ⟨q, 0, none⟩), .int .i64 off, .int .i64 most] w fun e w' => ∃ n ps rv, n < bs.length ∧ off < ((endM ⟨base, 0, 0⟩ (bs.take (n + 1))).base : Int) ∧ (∀ j, 0 < j → j ≤ n → ((endM ⟨base, 0, 0⟩ (bs.take j)).base : Int) ≤ off) ∧ e = .returned rv ∧ BL w' w.heap.size rv ps ∧ ps.map Prod.fst = takeB most ((endM ⟨base, 0, 0⟩ (bs.take n)).at_ : Int) false (endM ⟨base, 0, 0⟩ (bs.take n)) (bs.drop n) ∧ Below w.heap.size w w' := by
  obtain ⟨⟨B, g1, g2⟩, g3, g4⟩ := h
  exact g1.read off most ho ho2 hmo
/-- Read of all. -/
theorem SO.readAll {w0 w : World} {X : Nat → Prop} {q a base size bs safe} (h : SO w0 w X q a base size bs safe) (most : Int) (hmo : ((fileL bs).length : Int) ≤ most ∧ most ≤ 9223372036854775807) (off : Int) (ho : off = (base : Int)) :
    Calls Try.prog 18 #[.pointer (some ⟨q, 0, none⟩), .int .i64 off, .int .i64 most] w fun e w' => ∃ ps rv, e = .returned rv ∧ BL w' w.heap.size rv ps ∧ ps.map Prod.fst = bs ∧ Below w.heap.size w w' := by
  subst ho
  have hF := h.fits
  cases bs with
  | nil => exact (h.readNo _ _ (Int.le_refl _)).mono fun e w' ⟨e1, e2⟩ => ⟨[], _, e1, BL.nil _ _, rfl, e2⟩
  | cons b r =>
    have hb := right_recs hF.1
    have h1 : base + b.recs.length ≤ (endM ⟨base, 0, 0⟩ (b :: r)).base := endM_base r (Mk.next ⟨base, 0, 0⟩ b.recs.length (batchL b).1.length)
    refine (h.read (base : Int) most (Int.le_refl _) (by omega) (by omega)).mono fun e w' ⟨n, ps, rv, n1, n2, n3, e1, e2, e3, e4⟩ => ⟨ps, rv, e1, e2, ?_, e4⟩
    have hn : n = 0 := by
      rcases Nat.eq_zero_or_pos n with h0 | h0
      · exact h0
      · have h5 := n3 1 (by omega) h0
        have h6 : (endM ⟨base, 0, 0⟩ ((b :: r).take 1)).base = base + b.recs.length := rfl
        rw [h6] at h5
        omega
    subst hn
    rw [e3]
    have ha := endM_at (b :: r) ⟨base, 0, 0⟩
    simp only [Nat.zero_add] at ha
    have h7 : (endM ⟨base, 0, 0⟩ ((b :: r).take 0)) = ⟨base, 0, 0⟩ := rfl
    rw [h7, List.drop_zero]
    refine takeB_all _ _ _ _ _ ?_
    rw [ha]
    simp only
    omega
end Go.Proofs.Ytlgaianlkbaedaa

/- Rows of batches that others hold. -/
namespace Go.Proofs.Ytlgaianlkbaedaa
open Go.RowKit Go.Maps Go.Sort
set_option linter.unusedSimpArgs false
set_option linter.unusedVariables false

/-- A row of batches whose blocks are among X. -/
structure RX (w : World) (A : Nat) (X : Nat → Prop) (v : Value) (ps : List (Bat × Value)) : Prop where
  bl : BL w A v ps
  row : ∀ k, v.ownBlock = some k → X k
  recs : ∀ p ∈ ps, ∀ k, p.2.ownBlock = some k → X k
theorem BL.low {w : World} {A A' : Nat} {v ps} (h : BL w A v ps) (hA : A' ≤ A) : BL w A' v ps := ⟨⟨h.row.1, h.row.2.imp id (fun ⟨g, cap, cur, e, hb, r⟩ => ⟨g, cap, cur, e, Nat.le_trans hA hb, r⟩)⟩, h.recs, fun p hp k hk => ⟨Nat.le_trans hA (h.off p hp k hk).1, (h.off p hp k hk).2⟩⟩
theorem RX.of {w : World} {A A' : Nat} {X : Nat → Prop} {v ps} (h : BL w A v ps) (hA : A' ≤ A) (hX : ∀ k, A ≤ k → k < w.heap.size → X k) : RX w A' X v ps :=
  ⟨h.low hA, fun k hk => hX k (World.ownsRow.lt h.row k hk).1 (World.ownsRow.lt h.row k hk).2, fun p hp k hk => hX k (h.off p hp k hk).1 (h.off p hp k hk).2.1⟩
theorem RX.kept {w w1 : World} {A : Nat} {X : Nat → Prop} {v ps} (h : RX w A X v ps) (hk : KX X w w1) (hs : w.heap.size ≤ w1.heap.size) : RX w1 A X v ps := by
  refine ⟨⟨ownsRow_kept h.bl.row (fun q hq => hk q (h.row q hq)), fun p hp => (h.bl.recs p hp).off (fun q hq => hk q (h.recs p hp q hq)) hs, fun p hp k hq => ?_⟩, h.row, h.recs⟩
  have := h.bl.off p hp k hq
  exact ⟨this.1, Nat.lt_of_lt_of_le this.2.1 hs, this.2.2⟩
theorem RX.under {w w1 : World} {A : Nat} {X : Nat → Prop} {v ps} (h : RX w A X v ps) (hb : Below w.heap.size w w1) : RX w1 A X v ps := ⟨h.bl.under hb, h.row, h.recs⟩
theorem RX.wide {w : World} {A : Nat} {X Y : Nat → Prop} {v ps} (h : RX w A X v ps) (hY : ∀ k, X k → Y k) : RX w A Y v ps := ⟨h.bl, fun k hk => hY k (h.row k hk), fun p hp k hk => hY k (h.recs p hp k hk)⟩
theorem RX.nil (w : World) (A : Nat) (X : Nat → Prop) : RX w A X (.slice none 0 0) [] := ⟨BL.nil _ _, fun k hk => (by cases hk), fun p hp => (by cases hp)⟩
/-- New blocks are X's, too. -/
def XM (X : Nat → Prop) (w w1 : World) : Nat → Prop := fun k => X k ∨ (w.heap.size ≤ k ∧ k < w1.heap.size)
/-- A row of X grows: what is X's may change, no block of the segment does. -/
theorem SO.grown {w0 w w1 : World} {X : Nat → Prop} {q a base size bs safe} {A : Nat} {v ps} (h : SO w0 w X q a base size bs safe) (hr : RX w A X v ps) (hA : w0.heap.size ≤ A) (hg : w.grownBy w1 v.ownBlock) : SO w0 w1 (XM X w w1) q a base size bs safe := by
  obtain ⟨⟨B, h1, h2⟩, h3, h4⟩ := h
  have hs := hg.size
  have hs0 := h4.size
  have hne : ∀ k, B k → some k ≠ v.ownBlock := fun k hk e => (h2 k hk).2 (hr.row k e.symm)
  have hkeep : ∀ k, B k → w1.heap[k]? = w.heap[k]? := fun k hk => hg.block k (h1.sd.below k hk) (hne k hk)
  refine ⟨⟨B, ⟨?_, h1.fits, h1.safe, h1.name, h1.base⟩, fun k hk => ⟨(h2 k hk).1, fun hX => ?_⟩⟩, fun k hk => ?_, ⟨hg.os.trans h4.os, hg.tape.trans h4.tape, hg.output.trans h4.output, by omega, fun k hk => ?_⟩⟩
  · obtain ⟨U, S, v', g1, g2, g3, g4⟩ := h1.sd
    have hK : Keeps (fun k => some k = v.ownBlock) w w1 := ⟨hg.os, hg.tape, hg.output, hs, fun k hk hn => hg.block k hk hn⟩
    exact ⟨U, S, v', g1.kept (fun k hk => hkeep k ((g4 k).2 (.inl hk))) hs, g2.beside hK (fun k hk e => hne k ((g4 k).2 (.inr hk)) e), g3, g4⟩
  · rcases hX with hX | hX
    · exact (h2 k hk).2 hX
    · have := h1.sd.below k hk; omega
  · rcases hk with hk | hk
    · exact Nat.lt_of_lt_of_le (h3 k hk) hs
    · exact hk.2
  · rw [hg.block k (by omega) (fun e => by have := (World.ownsRow.lt hr.bl.row k e.symm).1; omega)]
    exact h4.block k hk
/-- One more batch. -/
theorem RX.push {w w2 : World} {A : Nat} {X : Nat → Prop} {v v' ps} (h : RX w A X v ps) (b : Bat) (rv : Value) (hr : Recs w rv b.recs) (ho : ∀ k, rv.ownBlock = some k → A ≤ k ∧ k < w.heap.size ∧ v.ownBlock ≠ some k ∧ X k) (hown : w2.ownsRow A 34 6 v' (ps.length + 1) (flatB ps ++ bcells b rv)) (hg : w.grownBy w2 v.ownBlock) (hat : v'.ownBlock = v.ownBlock ∨ v'.ownBlock = some w.heap.size) : RX w2 A (XM X w w2) v' (ps ++ [(b, rv)]) := by
  have hbl := h.bl.push b rv hr (fun k hk => ⟨(ho k hk).1, (ho k hk).2.1, (ho k hk).2.2.1⟩) hown hg hat
  refine ⟨hbl, fun k hk => ?_, fun p hp k hk => ?_⟩
  · rcases hat with ha | ha
    · rw [ha] at hk
      exact .inl (h.row k hk)
    · have h2 := (World.ownsRow.lt hbl.row k hk).2
      rw [ha] at hk
      cases hk
      exact .inr ⟨Nat.le_refl _, h2⟩
  · rcases List.mem_append.1 hp with hp | hp
    · exact .inl (h.recs p hp k hk)
    · have e : p = (b, rv) := by simpa using hp
      subst e
      exact .inl (ho k hk).2.2.2
theorem flatB_length : ∀ l : List (Bat × Value), (flatB l).length = l.length * 6
  | [] => rfl
  | m :: r => by simp [flatB, bcells, flatB_length r]; omega
theorem flatB_take (l : List (Bat × Value)) (n : Nat) : flatB (l.take n) = (flatB l).take (n * 6) := by
  rcases Nat.lt_or_ge n l.length with h | h
  · have e : flatB l = flatB (l.take n) ++ flatB (l.drop n) := by rw [← flatB_append, List.take_append_drop]
    have hl : (flatB (l.take n)).length = n * 6 := by rw [flatB_length, List.length_take, Nat.min_eq_left (by omega)]
    rw [e, ← hl, List.take_left]
  · rw [List.take_of_length_le h, List.take_of_length_le (by rw [flatB_length]; omega)]
/-- The beginning of a row. -/
theorem BL.take {w : World} {A : Nat} {o : Option Addr} {c : Nat} {ps : List (Bat × Value)} (h : BL w A (.slice o ps.length c) ps) (n : Nat) (hn : n ≤ ps.length) : BL w A (.slice o n c) (ps.take n) := by
  have hl : (ps.take n).length = n := by simp; omega
  have ho : ∀ k, (Value.slice o n c).ownBlock = some k ↔ (Value.slice o ps.length c).ownBlock = some k := fun k => by cases o <;> exact Iff.rfl
  refine ⟨⟨by rw [flatB_length], ?_⟩, fun p hp => h.recs p (List.mem_of_mem_take hp), fun p hp k hk => ?_⟩
  · rcases h.row.2 with ⟨e0, hz⟩ | ⟨g, cap', cur, e0, hb0, hg, c1, c2, c3, c4⟩
    · have e1 : o = none ∧ ps.length = 0 ∧ c = 0 := by simpa using e0
      obtain ⟨rfl, hz0, rfl⟩ := e1
      left
      exact ⟨by rw [show n = 0 by omega], by rw [hl]; omega⟩
    · cases e0
      right
      refine ⟨g, c, cur, by rw [hl], hb0, hg, by omega, c2, c3, ?_⟩
      rw [flatB_take, ← c4, List.take_take, hl, Nat.min_eq_left (by omega)]
  · have := h.off p (List.mem_of_mem_take hp) k hk
    exact ⟨this.1, this.2.1, fun e => this.2.2 ((ho k).1 e)⟩
theorem RX.take {w : World} {A : Nat} {X : Nat → Prop} {o : Option Addr} {c : Nat} {ps : List (Bat × Value)} (h : RX w A X (.slice o ps.length c) ps) (n : Nat) (hn : n ≤ ps.length) : RX w A X (.slice o n c) (ps.take n) :=
  ⟨h.bl.take n hn, fun k hk => h.row k (by cases o <;> exact hk), fun p hp k hk => h.recs p (List.mem_of_mem_take hp) k hk⟩
end Go.Proofs.Ytlgaianlkbaedaa

