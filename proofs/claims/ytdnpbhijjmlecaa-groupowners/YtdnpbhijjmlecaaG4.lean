/- A member's place; is it there? -/
import Derived.Test.YtdnpbhijjmlecaaG3
namespace Go.Proofs.Ytdnpbhijjmlecaa
open Go.RowKit Go.Maps
set_option maxRecDepth 100000
set_option linter.unusedSimpArgs false
set_option linter.unusedVariables false

def placeI (ms : List Mb) (id : Int) : Int := match placeN ms id with | some i => (i : Int) | none => -1
theorem placeI_at {ms : List Mb} {id : Int} {k : Nat} (h : ∀ m ∈ ms.take k, m.id ≠ id) (hk : k < ms.length) (e : ms[k].id = id) : placeI ms id = k := by
  have hp : placeN ms id = some k := by
    unfold placeN
    rw [List.findIdx?_eq_some_iff_getElem]
    refine ⟨hk, by simpa using e, fun j hj => ?_⟩
    have := h ms[j] (by rw [List.mem_take_iff_getElem]; exact ⟨j, by omega, rfl⟩)
    simpa using this
  unfold placeI
  rw [hp]
theorem placeI_none {ms : List Mb} {id : Int} (h : ∀ m ∈ ms, m.id ≠ id) : placeI ms id = -1 := by
  unfold placeI
  rw [place_none.2 h]
theorem placeI_le (ms : List Mb) (id : Int) : -1 ≤ placeI ms id ∧ placeI ms id ≤ ms.length := by
  unfold placeI
  cases h : placeN ms id with
  | none => simp
  | some i => obtain ⟨m, _, _, hi⟩ := place_some h; simp; omega
set_option maxHeartbeats 1600000 in
theorem place1_any {w : World} (m : Mb) (id : Int) (r : Nat) (hr : w.heap[r]? = some (.cells #[.int .i64 id] 3)) : Calls Try.prog 70 #[.agg #[.int .i64 m.id, .int .i64 m.num], .pointer (some ⟨r, 0, none⟩)] w fun e w' => e = .returned (.bool (m.id == id)) ∧ Below w.heap.size w w' := by
  have hlt : r < w.heap.size := (Array.getElem?_eq_some_iff.1 hr).1
  have hne : ¬ r = w.heap.size := by omega
  have c0 := cell_blk hr 0 _ rfl
  go_enter Try.func70, Try.ntmps70
  go_wp2_with fail
  go_ret
  exact ⟨ret_bool (by first | rfl | simp), (Below.refl _ _).alloc (Nat.le_refl _) _⟩
set_option maxHeartbeats 1600000 in
theorem indexFunc_any {w : World} {q : Nat} {vm vp vo : Value} {x : Gr} (h : GrR w q vm vp vo x) (hf : x.mem.length ≤ 1000) (id : Int) (r : Nat) (hr : w.heap[r]? = some (.cells #[.int .i64 id] 3)) : Calls Try.prog 69 #[vm, .func (.func 70) #[] #[.pointer (some ⟨r, 0, none⟩)]] w fun e w' => e = .returned (.int .i64 (placeI x.mem id)) ∧ Below w.heap.size w w' := by
  have HI := hid h
  obtain ⟨oa, cap, rfl, hcap, hcm, hnn, hat⟩ := row_shape h.mem
  have HR := hid hr
  clear h hr hnn hcm hcap
  go_enter Try.func69, Try.ntmps69
  go_wp2_with fail
  go_loopg [8] x.mem.length (fun kx s8 wr => ∃ k : Nat, k ≤ x.mem.length ∧ x.mem.length - k ≤ kx ∧ s8 = .int .i64 (k : Int) ∧ Hid ((∀ m ∈ x.mem.take k, m.id ≠ id) ∧ Below w.heap.size w wr))
  case atStart => exact ⟨0, Nat.zero_le _, by omega, rfl, by simp, Below.refl _ _⟩
  case round =>
    obtain ⟨k, hk, hkx, rfl, HK⟩ := hrel
    by_cases hlt : k < x.mem.length
    · obtain ⟨g, rfl⟩ := hat (by omega)
      have hx : x.mem[k]? = some x.mem[k] := List.getElem?_eq_getElem hlt
      obtain ⟨k0, k1⟩ := row_mem (HI.out.under HK.out.2).mem k _ hx
      have H70 := hid (place1_any x.mem[k] id r ((HK.out.2.block r (Array.getElem?_eq_some_iff.1 HR.out).1).trans HR.out))
      have HT : Hid (x.mem[k].id ≠ id → ∀ m ∈ x.mem.take (k + 1), m.id ≠ id) := fun hn m hm => by
        rw [List.take_succ_eq_append_getElem hlt] at hm
        rcases List.mem_append.1 hm with hm | hm
        · exact HK.out.1 m hm
        · obtain rfl := List.mem_singleton.1 hm; exact hn
      have HA : Hid (x.mem[k].id = id → placeI x.mem id = k) := fun e => placeI_at HK.out.1 hlt e
      have hlt' : (k : Int) < (x.mem.length : Int) := by omega
      generalize x.mem[k] = m at *
      clear hx
      cases hB : (m.id == id) with
      | true =>
        rw [hB] at H70
        have HE := hid (HA.out (by simpa using hB))
        clear hB HA HT
        go_wp2_with fail
        refine H70.out.mono ?_
        rintro e w1 ⟨rfl, hb1⟩
        go_wp2_with fail
        go_ret
        exact ⟨ret_int HE.out.symm, HK.out.2.trans (hb1.mono HK.out.2.size)⟩
      | false =>
        rw [hB] at H70
        have hT := HT.out (by simpa using hB)
        clear hB HA HT
        go_wp2_with fail
        refine H70.out.mono ?_
        rintro e w1 ⟨rfl, hb1⟩
        have HK2 : Hid ((∀ m ∈ x.mem.take (k + 1), m.id ≠ id) ∧ Below w.heap.size w w1) := ⟨hT, HK.out.2.trans (hb1.mono HK.out.2.size)⟩
        clear hb1 hT HK H70 k0 k1
        go_wp2_with fail
        go_roundg (x.mem.length - (k + 1))
        case measure => omega
        case rel => exact ⟨k + 1, by omega, Nat.le_refl _, by go_num, HK2.out⟩
    · have hlt' : ¬ (k : Int) < (x.mem.length : Int) := by omega
      go_wp2_with fail
      go_ret
      have hN := HK.out.1
      rw [List.take_of_length_le (by omega)] at hN
      exact ⟨ret_int (placeI_none hN).symm, HK.out.2⟩
set_option maxHeartbeats 1600000 in
theorem place_any {w : World} {q : Nat} {vm vp vo : Value} {x : Gr} (h : GrR w q vm vp vo x) (hf : x.mem.length ≤ 1000) (id : Int) : Calls Try.prog 59 #[.pointer (some ⟨q, 0, none⟩), .int .i64 id] w fun e w' => e = .returned (.int .i64 (placeI x.mem id)) ∧ Below w.heap.size w w' := by
  have hb0 : Below w.heap.size w (w.alloc (.cells #[.int .i64 id] 3)) := (Below.refl _ _).alloc (Nat.le_refl _) _
  have H69 := hid (indexFunc_any (h.under hb0) hf id w.heap.size (heap_alloc_new _ _))
  have c2 := h.c2
  have hq := h.lt
  have hne : ¬ q = w.heap.size := by omega
  have HB := hid hb0
  obtain ⟨oa, cap, rfl, _⟩ := row_shape h.mem
  clear h hb0
  go_enter Try.func59, Try.ntmps59
  go_wp2_with (go_at_call 69; refine H69.out.mono ?_; rintro e w1 ⟨rfl, hb1⟩)
  go_ret
  exact ⟨rfl, HB.out.trans (hb1.mono HB.out.size)⟩
theorem hasM_iff {x : Gr} {id : Int} : hasM x id = decide (0 ≤ placeI x.mem id) := by
  unfold hasM placeI
  cases h : placeN x.mem id with
  | none => simp
  | some i => simp
set_option maxHeartbeats 800000 in
theorem has_any {w : World} {q : Nat} {vm vp vo : Value} {x : Gr} (h : GrR w q vm vp vo x) (hf : x.mem.length ≤ 1000) (id : Int) : Calls Try.prog 57 #[.pointer (some ⟨q, 0, none⟩), .int .i64 id] w fun e w' => e = .returned (.bool (hasM x id)) ∧ Below w.heap.size w w' := by
  have HP := hid (place_any h hf id)
  have HF := hid (hasM_iff (x := x) (id := id))
  generalize hasM x id = B at *
  generalize placeI x.mem id = p at *
  clear h
  go_enter Try.func57, Try.ntmps57
  go_wp2_with fail
  refine HP.out.mono ?_
  rintro e w1 ⟨rfl, hb1⟩
  go_wp2_with fail
  go_ret
  exact ⟨ret_bool (by rw [HF.out]), hb1⟩
end Go.Proofs.Ytdnpbhijjmlecaa
