/- What does does: reading, and a crash. -/
import Derived.Test.YtpdghpmfacaglaaPd
namespace Go.Proofs.Ytpdghpmfacaglaa
open Go.RowKit Go.Maps Go.Sort
set_option maxRecDepth 100000
set_option linter.unusedSimpArgs false
set_option linter.unusedVariables false

set_option maxHeartbeats 3200000 in
theorem does8b {F : Nat → Prop} {W w : World} {a r size : Nat} {l : List AF} (h : Two F W w a r size l l) (kind : Int) (name b : ByteArray) (n : Int) (oa : Option Addr) (ks : List Int) (kc : Nat) (hn : name.size ≤ maxLen) (hb : b.size ≤ maxLen) (hpar : ¬ n.tmod 2 = 0) (HPk : Hid (∀ wx, Calls Try.prog 17 #[.int .i64 kind, .int .i64 10] wx fun e w' => e = .returned (.int .i64 8) ∧ w' = wx)) :
    Calls Try.prog 12 #[.pointer (some ⟨a, 0, none⟩), .pointer (some ⟨r, 0, none⟩), .agg #[.int .i64 kind, .string name, .string b, .int .i64 n, .slice oa ks.length kc]] w fun e w' => Done F W a r size e w' := by
  have HT := hid (h.hold (.cells #[.int .i64 kind, .string name, .string b, .int .i64 n, .slice oa ks.length kc] 33))
  have HL := hid h.lok
  have H0 := hid h
  have o1 : (w.alloc (.cells #[.int .i64 kind, .string name, .string b, .int .i64 n, .slice oa ks.length kc] 33)).cell? ⟨w.heap.size, 1, none⟩ = some (.string name) := cell_new33 w rfl
  have o2 : (w.alloc (.cells #[.int .i64 kind, .string name, .string b, .int .i64 n, .slice oa ks.length kc] 33)).cell? ⟨w.heap.size, 2, none⟩ = some (.string b) := cell_new33 w rfl
  have o3 : (w.alloc (.cells #[.int .i64 kind, .string name, .string b, .int .i64 n, .slice oa ks.length kc] 33)).cell? ⟨w.heap.size, 3, none⟩ = some (.int .i64 n) := cell_new33 w rfl
  have o4 : (w.alloc (.cells #[.int .i64 kind, .string name, .string b, .int .i64 n, .slice oa ks.length kc] 33)).cell? ⟨w.heap.size, 4, none⟩ = some (.slice oa ks.length kc) := cell_new33 w rfl
  clear h
  go_enter Try.func12, Try.ntmps12
  go_wp2_with fail
  refine (HPk.out _).mono ?_
  rintro e w3 ⟨rfl, h⟩
  have h' := h.symm
  subst h'
  clear h HPk
  go_wp2_with fail
  obtain ⟨S, T, v, h1, h2, _⟩ := HT.out
  have HR := hid (readA h1 name hn)
  clear h1 h2
  refine HR.out.mono ?_
  rintro e w4 ⟨rfl, hb4⟩
  have H4 := hid (HT.out.under hb4)
  have z1 := (H4.out.frm).cell (.inr rfl) o1
  clear hb4 HR
  obtain ⟨S, T, v, h1, h2, _⟩ := H4.out
  have HR := hid (rread_any h2 HL.out.len name)
  have HS : Hid (∀ m, Calls Try.prog 25 #[.pointer (some ⟨a, 0, none⟩), .string name] (w4.drewN m) fun e w' => e = .returned (.int .i64 ((abytes l name.data.toList).length : Int)) ∧ w' = w4.drewN m) := fun m => sizeA (h1.under (below_drewN (Below.refl _ _) m)) name hn
  have HS2 : Hid (∀ m, Calls Try.prog 38 #[.pointer (some ⟨r, 0, none⟩), .string name] (w4.drewN m) fun e w' => e = .returned (.int .i64 ((abytes l name.data.toList).length : Int)) ∧ w' = w4.drewN m) := fun m => rsize_any (h2.under (below_drewN (Below.refl _ _) m)) HL.out.len name
  have HY : Hid (∀ m, Calls Try.prog 20 #[.pointer (some ⟨a, 0, none⟩), .string name] (w4.drewN m) fun e w' => e = .returned (.int .i64 (asafe l name.data.toList : Int)) ∧ w' = w4.drewN m) := fun m => syncedA (h1.under (below_drewN (Below.refl _ _) m)) name hn
  have HY2 : Hid (∀ m, Calls Try.prog 39 #[.pointer (some ⟨r, 0, none⟩), .string name] (w4.drewN m) fun e w' => e = .returned (.int .i64 (asafe l name.data.toList : Int)) ∧ w' = w4.drewN m) := fun m => rsynced_any (h2.under (below_drewN (Below.refl _ _) m)) HL.out.len name
  clear h1 h2
  generalize abytes l name.data.toList = B at *
  generalize asafe l name.data.toList = A at *
  generalize synE l name = Y at *
  generalize strOf B = SB at *
  go_wp2_with fail
  refine HR.out.mono ?_
  rintro e w5 ⟨rfl, h⟩
  have h' := h.symm
  subst h'
  clear h HR
  go_wp2_with fail
  go_quiet ((first
    | (go_at_call 25; exact (HS.out _).mono fun e w' h => ⟨h.1, _, h.2⟩)
    | (go_at_call 38; exact (HS2.out _).mono fun e w' h => ⟨h.1, _, h.2⟩)
    | (go_at_call 20; exact (HY.out _).mono fun e w' h => ⟨h.1, _, h.2⟩)
    | (go_at_call 39; exact (HY2.out _).mono fun e w' h => ⟨h.1, _, h.2⟩)))
  go_wp2_with fail
  go_ret
  exact ⟨rfl, _, Two.release H0.out (H4.out.drewN _)⟩

set_option maxHeartbeats 3200000 in
theorem does9 {F : Nat → Prop} {W w : World} {a r size : Nat} {l : List AF} (h : Two F W w a r size l l) (kind : Int) (name b : ByteArray) (n : Int) (oa : Option Addr) (ks : List Int) (kc : Nat) (hn : name.size ≤ maxLen) (hb : b.size ≤ maxLen) (hks : IntsAt W oa ks) (hkl : ks.length ≤ maxLen) (hkF : ks ≠ [] → ∀ bb off, oa = some ⟨bb, off, none⟩ → F bb) (HPk : Hid (∀ wx, Calls Try.prog 17 #[.int .i64 kind, .int .i64 10] wx fun e w' => e = .returned (.int .i64 9) ∧ w' = wx)) :
    Calls Try.prog 12 #[.pointer (some ⟨a, 0, none⟩), .pointer (some ⟨r, 0, none⟩), .agg #[.int .i64 kind, .string name, .string b, .int .i64 n, .slice oa ks.length kc]] w fun e w' => Done F W a r size e w' := by
  have HT := hid (h.hold (.cells #[.int .i64 kind, .string name, .string b, .int .i64 n, .slice oa ks.length kc] 33))
  have HL := hid h.lok
  have H0 := hid h
  have o1 : (w.alloc (.cells #[.int .i64 kind, .string name, .string b, .int .i64 n, .slice oa ks.length kc] 33)).cell? ⟨w.heap.size, 1, none⟩ = some (.string name) := cell_new33 w rfl
  have o2 : (w.alloc (.cells #[.int .i64 kind, .string name, .string b, .int .i64 n, .slice oa ks.length kc] 33)).cell? ⟨w.heap.size, 2, none⟩ = some (.string b) := cell_new33 w rfl
  have o3 : (w.alloc (.cells #[.int .i64 kind, .string name, .string b, .int .i64 n, .slice oa ks.length kc] 33)).cell? ⟨w.heap.size, 3, none⟩ = some (.int .i64 n) := cell_new33 w rfl
  have o4 : (w.alloc (.cells #[.int .i64 kind, .string name, .string b, .int .i64 n, .slice oa ks.length kc] 33)).cell? ⟨w.heap.size, 4, none⟩ = some (.slice oa ks.length kc) := cell_new33 w rfl
  have HKs : Hid (∀ w' lp lr, Two (fun k => F k ∨ k = w.heap.size) (w.alloc (.cells #[.int .i64 kind, .string name, .string b, .int .i64 n, .slice oa ks.length kc] 33)) w' a r size lp lr → IntsAt w' oa ks ∧ (ks ≠ [] → ∀ bb off, oa = some ⟨bb, off, none⟩ → F bb)) := fun w' lp lr ht => by
    refine ⟨?_, hkF⟩
    rcases hks with e | ⟨bb, off, e, hc⟩
    · exact .inl e
    · by_cases hn0 : ks = []
      · exact .inl hn0
      · refine .inr ⟨bb, off, e, fun j hj => ⟨?_, (hc j hj).2⟩⟩
        have hF := hkF hn0 bb off e
        have h1 := ht.frm.block bb (.inl hF)
        have h2 : (w.alloc (.cells #[.int .i64 kind, .string name, .string b, .int .i64 n, .slice oa ks.length kc] 33)).heap[bb]? = w.heap[bb]? := Below.heap_alloc w _ bb (Nat.lt_of_lt_of_le (h.frm.low bb hF) h.frm.size)
        exact (World.cell?_of_block (a := ⟨bb, off + j, none⟩) (h1.trans (h2.trans (h.frm.block bb hF)))).trans (hc j hj).1
  clear h
  go_enter Try.func12, Try.ntmps12
  go_wp2_with fail
  refine (HPk.out _).mono ?_
  rintro e w3 ⟨rfl, h⟩
  have h' := h.symm
  subst h'
  clear h HPk
  go_wp2_with fail
  refine (HT.out.p' (fun S hd hSF => crashA hd oa ks kc (HKs.out _ _ _ HT.out).1 hkl (fun h0 b off e => fun hS => hSF b hS (.inl ((HKs.out _ _ _ HT.out).2 h0 b off e))))).mono ?_
  rintro e w4 ⟨rfl, h4⟩
  have H4 := hid h4
  have z4 := (h4.frm).cell (.inr rfl) o4
  clear h4
  go_wp2_with fail
  refine (H4.out.q' (fun T v hr hTF => rcrash_any hr HL.out oa ks kc (HKs.out _ _ _ H4.out).1 hkl (fun h0 b off e => ⟨Nat.lt_of_lt_of_le (H4.out.frm.low b (.inl ((HKs.out _ _ _ H4.out).2 h0 b off e))) H4.out.frm.size, fun hT => hTF b hT (.inl ((HKs.out _ _ _ H4.out).2 h0 b off e))⟩))).mono ?_
  rintro e w5 ⟨rfl, h5⟩
  have HT2 := hid h5
  clear h5
  go_wp2_with fail
  go_ret
  exact ⟨rfl, _, Two.release H0.out HT2.out⟩
end Go.Proofs.Ytpdghpmfacaglaa
