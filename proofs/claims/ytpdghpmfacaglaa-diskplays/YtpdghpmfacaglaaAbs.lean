/- The files without their memory: names, bytes, how many are safe; what a crash makes of them. -/
import Derived.Test.YtpdghpmfacaglaaApp
namespace Go.Proofs.Ytpdghpmfacaglaa
open Go.RowKit Go.Maps
set_option maxRecDepth 100000
set_option linter.unusedSimpArgs false
set_option linter.unusedVariables false

/-- A name, its bytes, how many of them are safe. -/
structure AF where
  name : List UInt8
  bs : List UInt8
  safe : Nat

def absE (p : List UInt8 × FileE) : AF := ⟨p.1, p.2.bs, p.2.safe⟩
def abs (fs : List (List UInt8 × FileE)) : List AF := fs.map absE

theorem abs_length (fs : List (List UInt8 × FileE)) : (abs fs).length = fs.length := by simp [abs]

theorem before_asymm {x y : List UInt8} (h : bytesBefore x y = true) : bytesBefore y x = false := by
  cases h2 : bytesBefore y x with
  | false => rfl
  | true =>
    have := WideShapes.bytes_trans _ _ _ h h2
    rw [WideAt.bytes_irrefl] at this
    cases this

theorem before_ne {x y : List UInt8} (h : bytesBefore x y = true) : x ≠ y := fun e => by rw [e, WideAt.bytes_irrefl] at h; cases h

theorem fput_set (n : List UInt8) (f : FileE) : ∀ (fs : List (List UInt8 × FileE)) (j : Nat), fs.Pairwise (fun p q => bytesBefore p.1 q.1 = true) → (∀ p, fs[j]? = some p → p.1 = n) → j < fs.length → fput fs n f = fs.set j (n, f)
  | [], j, _, _, hj => by simp at hj
  | q :: r, 0, hp, hn, _ => by
    have hq : q.1 = n := hn q rfl
    have hp' := List.pairwise_cons.1 hp
    have hr : fdel r n = r := fdel_of_ne n r (fun p hp => by rw [← hq]; exact (before_ne (hp'.1 p hp)).symm)
    have e1 : fdel (q :: r) n = r := by
      have : (q.1 == n) = true := by simpa using hq
      unfold fdel at hr ⊢
      rw [List.filter_cons]
      simp only [this, Bool.not_true, Bool.false_eq_true, if_false, hr]
    unfold fput
    rw [e1, List.set_cons_zero]
    cases r with
    | nil => rfl
    | cons z t =>
      have hz : bytesBefore n z.1 = true := by rw [← hq]; exact hp'.1 z (by simp)
      simp [fins, hz]
  | q :: r, j + 1, hp, hn, hj => by
    have hp' := List.pairwise_cons.1 hp
    have hj' : j < r.length := by simpa using hj
    have hpj : r[j].1 = n := hn r[j] (by simp [hj'])
    have hqn : bytesBefore q.1 n = true := by rw [← hpj]; exact hp'.1 _ (List.getElem_mem hj')
    have ih := fput_set n f r j hp'.2 (fun p hp => hn p (by simpa using hp)) hj'
    have e1 : fdel (q :: r) n = q :: fdel r n := by
      have : (q.1 == n) = false := by simpa using before_ne hqn
      unfold fdel
      rw [List.filter_cons]
      simp [this]
    unfold fput at ih ⊢
    rw [e1, List.set_cons_succ, ← ih]
    simp [fins, before_asymm hqn]

def crash1 (ks : List Int) (i : Nat) (x : AF) : AF := ⟨x.name, x.bs.take (x.safe + keptN ks i (x.bs.length - x.safe)), x.safe + keptN ks i (x.bs.length - x.safe)⟩

/-- The first j files, crashed. -/
def crashL (ks : List Int) : Nat → Nat → List AF → List AF
  | _, 0, l => l
  | _, _ + 1, [] => []
  | i, j + 1, x :: r => if x.bs.length = x.safe then x :: crashL ks i j r else crash1 ks i x :: crashL ks (i + 1) j r

def dirtyN : Nat → List AF → Nat
  | 0, _ => 0
  | _ + 1, [] => 0
  | j + 1, x :: r => (if x.bs.length = x.safe then 0 else 1) + dirtyN j r

theorem dirtyN_le : ∀ (j : Nat) (l : List AF), dirtyN j l ≤ j
  | 0, _ => Nat.le_refl _
  | _ + 1, [] => by simp [dirtyN]
  | j + 1, x :: r => by have := dirtyN_le j r; simp only [dirtyN]; split <;> omega

theorem crashL_length (ks : List Int) : ∀ (i j : Nat) (l : List AF), (crashL ks i j l).length = l.length
  | _, 0, l => by simp [crashL]
  | _, _ + 1, [] => rfl
  | i, j + 1, x :: r => by simp only [crashL]; split <;> simp [crashL_length ks _ j r]

theorem crashL_at (ks : List Int) : ∀ (i j : Nat) (l : List AF), (crashL ks i j l)[j]? = l[j]?
  | _, 0, l => by simp [crashL]
  | _, _ + 1, [] => rfl
  | i, j + 1, x :: r => by simp only [crashL]; split <;> simp [crashL_at ks _ j r]

theorem crashL_clean (ks : List Int) : ∀ (i j : Nat) (l : List AF) (x : AF), l[j]? = some x → x.bs.length = x.safe → crashL ks i (j + 1) l = crashL ks i j l
  | i, 0, [], x, h, _ => by simp at h
  | i, 0, y :: r, x, h, hc => by
    simp at h; subst h
    simp [crashL, hc]
  | i, j + 1, [], x, h, _ => by simp at h
  | i, j + 1, y :: r, x, h, hc => by
    have h' : r[j]? = some x := by simpa using h
    rw [crashL]
    conv => rhs; rw [crashL]
    split
    · rw [crashL_clean ks i j r x h' hc]
    · rw [crashL_clean ks (i + 1) j r x h' hc]

theorem crashL_dirty (ks : List Int) : ∀ (i j : Nat) (l : List AF) (x : AF), l[j]? = some x → x.bs.length ≠ x.safe → crashL ks i (j + 1) l = (crashL ks i j l).set j (crash1 ks (i + dirtyN j l) x)
  | i, 0, [], x, h, _ => by simp at h
  | i, 0, y :: r, x, h, hc => by
    simp at h; subst h
    simp [crashL, hc, dirtyN]
  | i, j + 1, [], x, h, _ => by simp at h
  | i, j + 1, y :: r, x, h, hc => by
    have h' : r[j]? = some x := by simpa using h
    rw [crashL]
    conv => rhs; rw [crashL]
    by_cases hy : y.bs.length = y.safe
    · simp only [hy, if_true, dirtyN]
      rw [crashL_dirty ks i j r x h' hc, List.set_cons_succ, Nat.zero_add]
    · simp only [hy, if_false, dirtyN]
      rw [crashL_dirty ks (i + 1) j r x h' hc, List.set_cons_succ]
      congr 3
      omega

theorem dirtyN_clean : ∀ (j : Nat) (l : List AF) (x : AF), l[j]? = some x → x.bs.length = x.safe → dirtyN (j + 1) l = dirtyN j l
  | 0, [], x, h, _ => by simp at h
  | 0, y :: r, x, h, hc => by simp at h; subst h; simp [dirtyN, hc]
  | j + 1, [], x, h, _ => by simp at h
  | j + 1, y :: r, x, h, hc => by
    have h' : r[j]? = some x := by simpa using h
    rw [dirtyN, dirtyN_clean j r x h' hc]
    rfl

theorem dirtyN_dirty : ∀ (j : Nat) (l : List AF) (x : AF), l[j]? = some x → x.bs.length ≠ x.safe → dirtyN (j + 1) l = dirtyN j l + 1
  | 0, [], x, h, _ => by simp at h
  | 0, y :: r, x, h, hc => by simp at h; subst h; simp [dirtyN, hc]
  | j + 1, [], x, h, _ => by simp at h
  | j + 1, y :: r, x, h, hc => by
    have h' : r[j]? = some x := by simpa using h
    rw [dirtyN, dirtyN_dirty j r x h' hc]
    simp only [dirtyN]
    omega

theorem crashL_names (ks : List Int) : ∀ (i j : Nat) (l : List AF), (crashL ks i j l).map AF.name = l.map AF.name
  | _, 0, l => by simp [crashL]
  | _, _ + 1, [] => rfl
  | i, j + 1, x :: r => by simp only [crashL]; split <;> simp [crashL_names ks _ j r, crash1]

def totalA : List AF → Nat
  | [] => 0
  | x :: r => x.bs.length + totalA r
theorem total_abs : ∀ fs : List (List UInt8 × FileE), totalA (abs fs) = total fs
  | [] => rfl
  | p :: r => by have := total_abs r; unfold abs at this ⊢; simp only [List.map_cons, totalA, total, this]; rfl

theorem totalA_set : ∀ (l : List AF) (j : Nat) (x y : AF), l[j]? = some x → y.bs.length ≤ x.bs.length → totalA (l.set j y) ≤ totalA l
  | [], _, _, _, h, _ => by simp at h
  | z :: r, 0, x, y, h, hle => by simp at h; subst h; simp [totalA]; omega
  | z :: r, j + 1, x, y, h, hle => by
    have := totalA_set r j x y (by simpa using h) hle
    simp [totalA]; omega

theorem abs_set (fs : List (List UInt8 × FileE)) (j : Nat) (p : List UInt8 × FileE) : abs (fs.set j p) = (abs fs).set j (absE p) := by simp [abs, List.map_set]
theorem abs_at (fs : List (List UInt8 × FileE)) (j : Nat) : (abs fs)[j]? = (fs[j]?).map absE := by simp [abs]
end Go.Proofs.Ytpdghpmfacaglaa
