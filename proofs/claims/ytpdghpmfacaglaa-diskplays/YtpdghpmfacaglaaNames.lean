/- What Names does: a new slice with the names, rising. -/
import Derived.Test.YtpdghpmfacaglaaPut
import Derived.Test.YtpdghpmfacaglaaIter
namespace Go.Proofs.Ytpdghpmfacaglaa
open Go.RowKit Go.Maps Go.Sort
set_option maxRecDepth 100000
set_option linter.unusedSimpArgs false

theorem before_le : ∀ (a b : List UInt8), bytesBefore a b = true → a ≤ b
  | [], [], h => by simp [bytesBefore] at h
  | [], y :: s, _ => by simp
  | x :: r, [], h => by simp [bytesBefore] at h
  | x :: r, y :: s, h => by
    simp only [bytesBefore, Bool.or_eq_true, Bool.and_eq_true, decide_eq_true_eq, beq_iff_eq] at h
    rw [List.cons_le_cons_iff]
    rcases h with h | ⟨h1, h2⟩
    · exact .inl h
    · exact .inr ⟨h1, before_le r s h2⟩

theorem DiskM.rising {w : World} {S : Nat → Prop} {a size : Nat} {mo : Option Nat} {fs : List (List UInt8 × FileE)} (h : DiskM w S a size mo fs) : fs.Pairwise (fun p q => bytesBefore p.1 q.1 = true) := by
  cases mo with
  | none => have e : fs = [] := h.files; subst e; exact List.Pairwise.nil
  | some b =>
    have hown : w.ownsMap Try.prog 9 Rh b fs.length (dmap fs) := h.files
    obtain ⟨es, he, hp, _⟩ := hown.canon law9
    have : es = fs.map fun p => (Lit.string p.1, (DataW.held p.2.val : DataW Value)) := by simp only [dmap, DataW.map.injEq] at he; exact he.symm
    subst this
    rw [List.pairwise_map] at hp
    exact hp

theorem strKeys_dmap (fs : List (List UInt8 × FileE)) : strKeys (dmap fs) = fs.map (·.1) := by
  simp [strKeys, dmap, Function.comp_def, Go.strOf]

theorem sorted_names {fs : List (List UInt8 × FileE)} (hr : fs.Pairwise (fun p q => bytesBefore p.1 q.1 = true)) {ss : List (List UInt8)} (hp : ss.Perm (fs.map (·.1))) : ss.mergeSort (fun x y => decide (x ≤ y)) = fs.map (·.1) := by
  have h1 : ss.mergeSort (fun x y => decide (x ≤ y)) = (fs.map (·.1)).mergeSort (fun x y => decide (x ≤ y)) := mergeSort_of_perm hp
  rw [h1]
  refine List.mergeSort_of_pairwise ?_
  rw [List.pairwise_map]
  exact hr.imp (fun h => by simpa using before_le _ _ h)

set_option maxHeartbeats 1000000 in
theorem names_any {w : World} {S : Nat → Prop} {a size : Nat} {mo : Option Nat} {fs : List (List UInt8 × FileE)} (h : DiskM w S a size mo fs) :
    Calls Try.prog 23 #[.pointer (some ⟨a, 0, none⟩)] w fun e w' => ∃ v, e = .returned v ∧ w'.ownsRow w.heap.size 9 1 v fs.length ((fs.map (·.1)).map encStr) ∧ Below w.heap.size w w' := by
  have c1 := h.c1
  have hr := h.rising
  have hfew := h.few
  refine (callsIn_wide (n := 6)).1 ?_
  have hfK : Fence.wide.fn 47 := trivial
  have hfS : Fence.wide.fn 46 := trivial
  cases mo with
  | some b =>
    have hown : w.ownsMap Try.prog 9 Rh b fs.length (dmap fs) := h.files
    have hmax : Maps.size (dmap fs) ≤ maxLen := by rw [dmap_size]; unfold maxLen; omega
    have hbytes : Maps.size (dmap fs) * 16 ≤ 140737488355328 := by rw [dmap_size]; omega
    clear h
    refine callsIn_of_wp Try.func23 rfl trivial ?_ rfl
    simp only [Try.ntmps23, List.size_toArray, List.length_cons, List.length_nil, Nat.reduceAdd, Nat.reduceSub, Array.replicate_succ, Array.replicate_zero, List.push_toArray, List.append_toArray, List.nil_append, List.cons_append]
    gi_wp2_with (first
      | (gi_at_call 47; refine (Try.maps_Keys_47 _ _).mono ?_; rintro e w' ⟨rfl, rfl⟩)
      | (gi_at_call 46; refine (Try.slices_Sorted_keys_46_47 b fs.length (dmap fs) Rh w hown hmax hbytes).mono ?_; rintro e w' ⟨v, ss, rfl, hS, hrow, hnil, hb⟩))
    go_ret
    rw [strKeys_dmap] at hS
    have hl : ss.length = fs.length := by simpa using hS.length_eq
    rw [sorted_names hr hS, hl] at hrow
    exact ⟨v, rfl, ownsRow_base_a hrow (by simp), ((Below.refl _ w).alloc (Nat.le_refl _) _).trans (hb.mono (by simp))⟩
  | none =>
    have e0 : fs = [] := h.files
    subst e0
    clear h
    refine callsIn_of_wp Try.func23 rfl trivial ?_ rfl
    simp only [Try.ntmps23, List.size_toArray, List.length_cons, List.length_nil, Nat.reduceAdd, Nat.reduceSub, Array.replicate_succ, Array.replicate_zero, List.push_toArray, List.append_toArray, List.nil_append, List.cons_append]
    gi_wp2_with (first
      | (gi_at_call 47; refine (Try.maps_Keys_47 _ _).mono ?_; rintro e w' ⟨rfl, rfl⟩)
      | (gi_at_call 46; refine (Try.slices_Sorted_keys_nil_46_47 w).mono ?_; rintro e w' ⟨v, ss, rfl, hS, hrow, hnil, hb⟩))
    go_ret
    subst hS
    have e2 : ([] : List (List UInt8)).mergeSort (fun x y => decide (x ≤ y)) = [] := by simp
    rw [e2] at hrow
    exact ⟨v, rfl, ownsRow_base_a hrow (by simp), ((Below.refl _ w).alloc (Nat.le_refl _) _).trans (hb.mono (by simp))⟩
end Go.Proofs.Ytpdghpmfacaglaa
