/- Why a commit is refused. -/
import Derived.Test.YtdnpbhijjmlecaaZ1
import Derived.Test.YtdnpbhijjmlecaaZ0
import Derived.Deep.RegionLaw
import Derived.Lib.BufferWrite
namespace Go.Proofs.Ytdnpbhijjmlecaa
open Go.RowKit Go.Maps
set_option maxRecDepth 100000
set_option linter.unusedSimpArgs false
set_option linter.unusedVariables false

theorem memE_has {x : Gr} {m : Rc} (h : memE x m = 0) : hasM x m.a = true ∧ m.b = x.gen := by
  unfold memE at h
  split at h
  · omega
  · rename_i h1
    split at h
    · omega
    · rename_i h2
      exact ⟨by simpa using h1, by simpa using h2⟩
theorem one_of {l : List Int} (h : l.length = 1) : ∃ n, l = [n] := List.length_eq_one_iff.1 h
set_option maxHeartbeats 3200000 in
theorem comE_any {w : World} {q : Nat} {vm vp vo : Value} {x : Gr} (h : GrR w q vm vp vo x) (hf : x.mem.length ≤ 1000) (h64 : ∀ y ∈ x.mem, I64 y.id) (m : Rc) (hc : I64 m.c) (la : Option Addr) (lc : Nat) (hl : IL w (.slice la m.list.length lc) m.list) :
    Calls Try.prog 72 #[.pointer (some ⟨q, 0, none⟩), recV m (.slice la m.list.length lc)] w fun e w' => e = .returned (.int .i64 (comE x m)) ∧ Below w.heap.size w w' := by
  have hbA : Below w.heap.size w (w.alloc (.cells (recA m (.slice la m.list.length lc)) 32)) := (Below.refl _ _).alloc (Nat.le_refl _) _
  have HME := hid (memE_any (h.under hbA) hf m la m.list.length lc)
  have HBA := hid hbA
  have hB := heap_alloc_new w (.cells (recA m (.slice la m.list.length lc)) 32)
  have HBX := hid hB
  have HR := hid (h.under hbA)
  have HL := hid (hl.under hbA)
  have a0 := cell_blk hB 0 _ rfl
  have a1 := cell_blk hB 1 _ rfl
  have a2 := cell_blk hB 2 _ rfl
  have a3 := cell_blk hB 3 _ rfl
  have a4 := cell_blk hB 4 _ rfl
  have a5 := cell_blk hB 5 _ rfl
  have a6 := cell_blk hB 6 _ rfl
  have a7 := cell_blk hB 7 _ rfl
  have hq := h.lt
  have hWs : (w.alloc (.cells (recA m (.slice la m.list.length lc)) 32)).heap.size = w.heap.size + 1 := by simp
  have HF : Hid (comE x m = if memE x m ≠ 0 then memE x m else if offB m.d = false ∨ oneB m.list = false then 1 else if m.list.headD 0 ≤ numOf x m.a then 12 else if ownerI x m.c ≠ m.a then 19 else 0) := rfl
  have HMH := hid (memE_has (x := x) (m := m))
  unfold recV recA at *
  clear h hbA hB hl
  generalize comE x m = E at *
  generalize memE x m = E0 at *
  by_cases h0 : E0 = 0
  · subst h0
    have hhas := hid (HMH.out rfl).1
    rw [if_neg (by simp)] at HF
    go_enter Try.func72, Try.ntmps72
    go_wp2_with fail
    generalize w.alloc (.cells #[.int .i64 m.kind, .int .i64 m.a, .int .i64 m.b, .int .i64 m.c, .int .i64 m.d, .string m.name, .string m.text, .slice la m.list.length lc] 32) = W at *
    obtain ⟨y, hy⟩ : ∃ y, y = w.heap.size := ⟨_, rfl⟩
    have HY := hid hy
    rw [← hy] at a0 a1 a2 a3 a4 a5 a6 a7 hWs hq HBX ⊢
    clear hy
    refine HME.out.mono ?_
    rintro e w1 ⟨rfl, hb1⟩
    have HC : Hid (∀ V, Below W.heap.size W V → V.cell? ⟨y, 1, none⟩ = some (.int .i64 m.a) ∧ V.cell? ⟨y, 3, none⟩ = some (.int .i64 m.c) ∧ V.cell? ⟨y, 4, none⟩ = some (.int .i64 m.d) ∧ V.cell? ⟨y, 7, none⟩ = some (.slice la m.list.length lc)) := fun V hV => ⟨kept_cell hV a1, kept_cell hV a3, kept_cell hV a4, kept_cell hV a7⟩
    obtain ⟨b1, b3, b4, b7⟩ := HC.out w1 hb1
    have HB1 := hid hb1
    clear hb1 a0 a1 a2 a3 a4 a5 a6 a7 HME HMH
    have hMx : (m.list.length : Int) ≤ 17592186044415 := by have := HL.out.few; omega
    cases hd : offB m.d with
    | false =>
      rw [if_pos (.inl hd)] at HF
      go_wp2_with (first | (go_at_call 85; refine (isOffset_any _ _).mono ?_; rintro e w2 ⟨rfl, rfl⟩) | fail)
      go_ret
      exact ⟨ret_int HF.out.symm, HBA.out.trans (HB1.out.mono HBA.out.size)⟩
    | true =>
      by_cases hln : m.list.length = 1
      · obtain ⟨n, hn⟩ := one_of hln
        have HN := hid hn
        have hcl : ∃ b o, la = some ⟨b, o, none⟩ ∧ ∀ V, Below W.heap.size W V → V.cell? ⟨b, o, none⟩ = some (.int .i64 n) := by
          obtain ⟨⟨a', c', e', _, _, _, hat⟩, _⟩ := HL.out
          simp only [Value.slice.injEq] at e'
          obtain ⟨b, o, e2, _, hcc⟩ := hat (by rw [hn]; simp)
          refine ⟨b, o, e'.1.trans e2, fun V hV => ?_⟩
          have := hcc 0 (by rw [hn]; simp)
          have e3 : m.list[0]'(by rw [hn]; simp) = n := by simp [hn]
          rw [e3] at this
          exact kept_cell hV this
        obtain ⟨lb, lo, rfl, hlc⟩ := hcl
        have HLC := hid hlc
        have c1 := hlc w1 HB1.out
        have hone : oneB m.list = offB n := by unfold oneB; rw [hn]; simp
        have hhd : m.list.headD 0 = n := by rw [hn]; rfl
        rw [hone, hhd] at HF
        rw [hln] at *
        clear hone hhd hn hlc hln
        cases hn2 : offB n with
        | false =>
          rw [if_pos (.inr hn2)] at HF
          go_wp2_with (first | (go_at_call 85; refine (isOffset_any _ _).mono ?_; rintro e w2 ⟨rfl, rfl⟩) | fail)
          go_ret
          exact ⟨ret_int HF.out.symm, HBA.out.trans (HB1.out.mono HBA.out.size)⟩
        | true =>
          rw [if_neg (by simp [hd, hn2])] at HF
          -- the member's place
          obtain ⟨p, hp⟩ := Option.isSome_iff_exists.1 (show (placeN x.mem m.a).isSome = true from hhas.out)
          obtain ⟨mb, hmb, hid1, hpl⟩ := place_some hp
          have hnum : numOf x m.a = mb.num := by unfold numOf; rw [hp]; simp [hmb]
          rw [hnum] at HF
          have hpi : placeI x.mem m.a = p := by unfold placeI; rw [hp]
          have HPL : Hid (∀ V, Below W.heap.size W V → Calls Try.prog 59 #[.pointer (some ⟨q, 0, none⟩), .int .i64 m.a] V fun e w' => e = .returned (.int .i64 (p : Int)) ∧ Below V.heap.size V w') := fun V hV => by rw [← hpi]; exact place_any (HR.out.under hV) hf m.a
          have HOW : Hid (∀ V, Below W.heap.size W V → Calls Try.prog 35 #[.pointer (some ⟨q, 0, none⟩), .int .i64 m.c] V fun e w' => e = .returned (.int .i64 (ownerI x m.c)) ∧ Below V.heap.size V w') := fun V hV => owner_any (HR.out.under hV) hf h64 m.c hc
          obtain ⟨oa, cap, rfl, hcap, hcm, _, hat⟩ := row_shape HR.out.mem
          obtain ⟨g, rfl⟩ := hat (by omega)
          have HMC : Hid (∀ V, Below W.heap.size W V → V.cell? ⟨q, 2, none⟩ = some (.slice (some ⟨g, 0, none⟩) x.mem.length cap) ∧ V.cell? ⟨g, p * 2 + 1, none⟩ = some (.int .i64 mb.num) ∧ V.cell? ⟨y, 1, none⟩ = some (.int .i64 m.a) ∧ V.cell? ⟨y, 7, none⟩ = some (.slice (some ⟨lb, lo, none⟩) 1 lc) ∧ V.cell? ⟨lb, lo, none⟩ = some (.int .i64 n)) := fun V hV => ⟨(HR.out.under hV).c2, (row_mem (HR.out.under hV).mem p mb hmb).2, (HC.out V hV).1, (HC.out V hV).2.2.2, HLC.out V hV⟩
          obtain ⟨d1, d2, d3, d4, d5⟩ := HMC.out w1 HB1.out
          have hp0 : (0 : Int) ≤ (p : Int) := by omega
          have hp1 : (p : Int) < (x.mem.length : Int) := by omega
          clear hat hcap hcm hp hmb hid1 hpi hnum hhas hpl HL HN
          generalize x.mem.length = K at *
          generalize mb.num = u at *
          by_cases hu : n ≤ u
          · rw [if_pos hu] at HF
            go_wp2_with (first | (go_at_call 85; refine (isOffset_any _ _).mono ?_; rintro e w2 ⟨rfl, rfl⟩) | fail)
            go_region_held3 (fun V => V.cell? ⟨q, 2, none⟩ = some (.slice (some ⟨g, 0, none⟩) K cap) ∧ V.cell? ⟨g, p * 2 + 1, none⟩ = some (.int .i64 u) ∧ V.cell? ⟨y, 1, none⟩ = some (.int .i64 m.a) ∧ V.cell? ⟨y, 7, none⟩ = some (.slice (some ⟨lb, lo, none⟩) 1 lc) ∧ V.cell? ⟨lb, lo, none⟩ = some (.int .i64 n)) (go_keep)
              (first | (go_at_call 59; refine (HPL.out _ (by first | exact HB1.out | exact HB1.out.drew)).mono ?_; rintro e w3 ⟨rfl, hb3⟩; have HB3 := hid ((show Below W.heap.size W _ by first | exact HB1.out | exact HB1.out.drew).trans (hb3.mono (show Below W.heap.size W _ by first | exact HB1.out | exact HB1.out.drew).size)); obtain ⟨f1, f2, f3, f4, f5⟩ := HMC.out w3 HB3.out; clear hb3) | fail)
            go_wp2_with fail
            go_ret
            exact ⟨ret_int HF.out.symm, HBA.out.trans (HB3.out.mono HBA.out.size)⟩
          · rw [if_neg hu] at HF
            go_wp2_with (first | (go_at_call 85; refine (isOffset_any _ _).mono ?_; rintro e w2 ⟨rfl, rfl⟩) | fail)
            go_region_held3 (fun V => V.cell? ⟨q, 2, none⟩ = some (.slice (some ⟨g, 0, none⟩) K cap) ∧ V.cell? ⟨g, p * 2 + 1, none⟩ = some (.int .i64 u) ∧ V.cell? ⟨y, 1, none⟩ = some (.int .i64 m.a) ∧ V.cell? ⟨y, 7, none⟩ = some (.slice (some ⟨lb, lo, none⟩) 1 lc) ∧ V.cell? ⟨lb, lo, none⟩ = some (.int .i64 n)) (go_keep)
              (first | (go_at_call 59; refine (HPL.out _ (by first | exact HB1.out | exact HB1.out.drew)).mono ?_; rintro e w3 ⟨rfl, hb3⟩; have HB3 := hid ((show Below W.heap.size W _ by first | exact HB1.out | exact HB1.out.drew).trans (hb3.mono (show Below W.heap.size W _ by first | exact HB1.out | exact HB1.out.drew).size)); obtain ⟨f1, f2, f3, f4, f5⟩ := HMC.out w3 HB3.out; clear hb3) | fail)
            have f6 := (HC.out w3 HB3.out).2.1
            clear f1 f2 f4 f5 d1 d2 d3 d4 d5 b1 b3 b4 b7 c1
            by_cases ho : ownerI x m.c = m.a
            · rw [if_neg (by simpa using ho)] at HF
              rw [ho] at HOW
              clear ho
              generalize m.a = ma at *
              generalize m.c = mc at *
              go_wp2_with fail
              go_region_held3 (fun V => V.cell? ⟨y, 3, none⟩ = some (.int .i64 mc) ∧ V.cell? ⟨y, 1, none⟩ = some (.int .i64 ma)) (go_keep)
                (first | (go_at_call 35; refine (HOW.out _ (by first | exact HB3.out | exact HB3.out.drew)).mono ?_; rintro e w4 ⟨rfl, hb4⟩; have HB4 := hid ((show Below W.heap.size W _ by first | exact HB3.out | exact HB3.out.drew).trans (hb4.mono (show Below W.heap.size W _ by first | exact HB3.out | exact HB3.out.drew).size)); obtain ⟨j1, j2, _, _⟩ := HC.out w4 HB4.out; clear hb4) | fail)
              go_wp2_with fail
              go_ret
              exact ⟨ret_int HF.out.symm, HBA.out.trans (HB4.out.mono HBA.out.size)⟩
            · rw [if_pos ho] at HF
              generalize ownerI x m.c = ow at *
              generalize m.a = ma at *
              generalize m.c = mc at *
              go_wp2_with fail
              go_region_held3 (fun V => V.cell? ⟨y, 3, none⟩ = some (.int .i64 mc) ∧ V.cell? ⟨y, 1, none⟩ = some (.int .i64 ma)) (go_keep)
                (first | (go_at_call 35; refine (HOW.out _ (by first | exact HB3.out | exact HB3.out.drew)).mono ?_; rintro e w4 ⟨rfl, hb4⟩; have HB4 := hid ((show Below W.heap.size W _ by first | exact HB3.out | exact HB3.out.drew).trans (hb4.mono (show Below W.heap.size W _ by first | exact HB3.out | exact HB3.out.drew).size)); obtain ⟨j1, j2, _, _⟩ := HC.out w4 HB4.out; clear hb4) | fail)
              go_wp2_with fail
              go_ret
              exact ⟨ret_int HF.out.symm, HBA.out.trans (HB4.out.mono HBA.out.size)⟩
      · have hone : oneB m.list = false := by unfold oneB; simp [hln]
        rw [if_pos (.inr hone)] at HF
        have hln' : ¬ (m.list.length : Int) = 1 := by omega
        clear hone
        go_wp2_with (first | (go_at_call 85; refine (isOffset_any _ _).mono ?_; rintro e w2 ⟨rfl, rfl⟩) | fail)
        go_ret
        exact ⟨ret_int HF.out.symm, HBA.out.trans (HB1.out.mono HBA.out.size)⟩
  · rw [if_pos h0] at HF
    have h0' : (E0 == 0) = false := by simpa using h0
    go_enter Try.func72, Try.ntmps72
    go_wp2_with fail
    refine HME.out.mono ?_
    rintro e w1 ⟨rfl, hb1⟩
    have HB1 := hid (HBA.out.trans (hb1.mono HBA.out.size))
    clear hb1 HME a0 a1 a2 a3 a4 a5 a6 a7
    go_wp2_with fail
    go_ret
    exact ⟨ret_int HF.out.symm, HB1.out⟩
end Go.Proofs.Ytdnpbhijjmlecaa

/- slices.Delete of one member. -/
namespace Go.Proofs.Ytdnpbhijjmlecaa
open Go.RowKit Go.Maps
set_option maxRecDepth 100000
set_option linter.unusedSimpArgs false
set_option linter.unusedVariables false

theorem flatM_one : ∀ l : List Mb, ∀ u ∈ flatM l, u.oneCell' = true
  | [], u, hu => by simp [flatM] at hu
  | m :: r, u, hu => by
    simp only [flatM, List.mem_append, List.mem_cons, List.not_mem_nil, or_false] at hu
    rcases hu with (rfl | rfl) | hu
    · rfl
    · rfl
    · exact flatM_one r u hu
theorem flatM_take : ∀ (l : List Mb) (k : Nat), flatM (l.take k) = (flatM l).take (k * 2)
  | [], k => by simp [flatM]
  | m :: r, 0 => by simp [flatM]
  | m :: r, k + 1 => by
    rw [List.take_succ_cons, show (k + 1) * 2 = k * 2 + 2 by omega]
    simp only [flatM, List.cons_append, List.nil_append, List.take_succ_cons]
    rw [flatM_take r k]
theorem flatM_drop : ∀ (l : List Mb) (k : Nat), flatM (l.drop k) = (flatM l).drop (k * 2)
  | [], k => by simp [flatM]
  | m :: r, 0 => by simp [flatM]
  | m :: r, k + 1 => by
    rw [List.drop_succ_cons, show (k + 1) * 2 = k * 2 + 2 by omega]
    simp only [flatM, List.cons_append, List.nil_append, List.drop_succ_cons]
    rw [flatM_drop r k]
theorem info84 : ∃ i, Try.prog.info? 84 = some i ∧ i.zero = some (.agg #[.int .i64 0, .int .i64 0]) ∧ i.size = 2 ∧ i.bytes = 16 := ⟨_, rfl, rfl, rfl, rfl⟩
theorem setCells_blk {g : Nat} {T : TypeId} : ∀ (vs : List Value) (o : Nat) (w : World) (cur : Array Value), w.heap[g]? = some (.cells cur T) → o + vs.length ≤ cur.size →
    ∃ cur' : Array Value, (w.setCells g o vs).heap[g]? = some (.cells cur' T) ∧ cur'.size = cur.size ∧ (∀ j, j < o → cur'[j]? = cur[j]?) ∧ (∀ j, j < vs.length → cur'[o + j]? = vs[j]?)
  | [], o, w, cur, h, hl => ⟨cur, h, rfl, fun j _ => rfl, fun j hj => by simp at hj⟩
  | v :: r, o, w, cur, h, hl => by
    have hl' : o + 1 + r.length ≤ cur.size := by simp at hl; omega
    obtain ⟨cur', h1, h2, h3, h4⟩ := setCells_blk r (o + 1) (w.setCell ⟨g, o, none⟩ v) (cur.setIfInBounds o v) (set_box h) (by simpa using hl')
    refine ⟨cur', h1, by simpa using h2, fun j hj => ?_, fun j hj => ?_⟩
    · rw [h3 j (by omega), Array.getElem?_setIfInBounds_ne (by omega)]
    · cases j with
      | zero =>
        rw [Nat.add_zero, h3 o (by omega), Array.getElem?_setIfInBounds_self]
        simp; omega
      | succ j =>
        have := h4 j (by simp at hj; omega)
        rw [show o + (j + 1) = o + 1 + j by omega, this]
        rfl
theorem mrow_of {w : World} {g cap : Nat} {cur : Array Value} {l : List Mb} (h : w.heap[g]? = some (.cells cur 84)) (hs : cur.size = cap * 2) (hl : l.length ≤ cap) (hc : cap ≤ maxLen) (hu : ∀ (j : Nat) u, (flatM l)[j]? = some u → cur[j]? = some u) : w.ownsRow 0 84 2 (.slice (some ⟨g, 0, none⟩) l.length cap) l.length (flatM l) := by
  refine ⟨flatM_length l, .inr ⟨g, cap, cur, rfl, Nat.zero_le _, h, hl, hc, hs, ?_⟩⟩
  apply List.ext_getElem?
  intro j
  by_cases hj : j < l.length * 2
  · have h1 : j < (flatM l).length := by rw [flatM_length]; exact hj
    have h2 : (flatM l)[j]? = some (flatM l)[j] := List.getElem?_eq_getElem h1
    rw [List.getElem?_take, if_pos hj, h2, Array.getElem?_toList]
    exact hu j _ h2
  · rw [List.getElem?_take, if_neg hj]
    exact (List.getElem?_eq_none (by rw [flatM_length]; omega)).symm
theorem mrow_blk {w : World} {g n cap : Nat} {l : List Mb} (h : w.ownsRow 0 84 2 (.slice (some ⟨g, 0, none⟩) n cap) l.length (flatM l)) : ∃ cur : Array Value, w.heap[g]? = some (.cells cur 84) ∧ cur.size = cap * 2 ∧ l.length ≤ cap ∧ cap ≤ maxLen ∧ (∀ (j : Nat) u, (flatM l)[j]? = some u → cur[j]? = some u) := by
  obtain ⟨_, ⟨e, h0⟩ | ⟨g', cap', cur, e, hb, hg, hn, hc, hs, ht⟩⟩ := h
  · cases e
  · cases e
    refine ⟨cur, hg, hs, hn, hc, fun j u hu => ?_⟩
    rw [← ht, List.getElem?_take] at hu
    split at hu
    · rw [← Array.getElem?_toList]; exact hu
    · cases hu
def z84 : Value := .agg #[.int .i64 0, .int .i64 0]
theorem run_clear84 (w : World) (ty b o n c : Nat) (hn : 0 < n) (hc : ∀ j, j < n * 2 → (w.cell? ⟨b, o + j, none⟩).isSome = true) (hf : ∀ j, j < n * 2 → w.frozen? ⟨b, o + j, none⟩ = false) :
    ∃ zs : List Value, zs.length = n * 2 ∧ (Builtin.clear_ #[69] ty #[.slice (some ⟨b, o, none⟩) n c]).run Try.prog w = .ok (.tuple #[]) (w.setCells b o zs) := by
  have hv : ∀ w, (zeroValue 84).run Try.prog w = .ok z84 w := fun w => by kernel_rfl
  have hzl : (Builtin.zeroCells z84.cells n).toList.length = n * 2 := by simp [Builtin.zeroCells, z84, Value.cells]
  refine ⟨(Builtin.zeroCells z84.cells n).toList, hzl, ?_⟩
  have hone : ∀ v ∈ (Builtin.zeroCells z84.cells n).toList, v.oneCell' = true := by
    intro v hv
    simp only [Builtin.zeroCells, Array.toList_map, List.mem_map] at hv
    obtain ⟨i, _, rfl⟩ := hv
    have hm : i % z84.cells.size = 0 ∨ i % z84.cells.size = 1 := by
      have : z84.cells.size = 2 := rfl
      rw [this]
      omega
    rcases hm with h | h <;> rw [h] <;> rfl
  have hst := run_storeCells_cells (P := Try.prog) b o (Builtin.zeroCells z84.cells n).toList 0 w (by simpa [hzl] using hc) (by simpa [hzl] using hf) hone
  simp only [Nat.add_zero] at hst
  obtain ⟨m, rfl⟩ : ∃ m, n = m + 1 := ⟨n - 1, by omega⟩
  simp [Builtin.clear_, run_underlying Try.underlying69, hv, hst]
theorem setCells_grown (g : Nat) : ∀ (vs : List Value) (o : Nat) (w : World), w.grownBy (w.setCells g o vs) (some g)
  | [], o, w => ⟨rfl, rfl, rfl, Nat.le_refl _, fun k hk _ => rfl⟩
  | v :: r, o, w => (Lib.grownBy_setCell w g o v).trans (setCells_grown g r (o + 1) _)
/-- The row that stays, when one is taken out. -/
theorem delete_rows {w : World} {g0 n cap : Nat} {l : List Mb} (h : w.ownsRow 0 84 2 (.slice (some ⟨g0, 0, none⟩) n cap) l.length (flatM l)) (i : Nat) (hi : i < l.length) (ad : Addr) (c : Nat) (had : ∀ j u, (flatM (l.drop (i + 1)))[j]? = some u → w.cell? (ad.add j) = some u) :
    ∃ W2 W3 : World, (∀ ty, (Builtin.append_ #[69, 69] ty #[.slice (some ⟨g0, 0, none⟩) i cap, .slice (some ad) (l.length - (i + 1)) c]).run Try.prog w = .ok (.slice (some ⟨g0, 0, none⟩) (l.length - 1) cap) W2) ∧
      (∀ ty, (Builtin.clear_ #[69] ty #[.slice (some ⟨g0, (l.length - 1) * 2, none⟩) 1 (cap - (l.length - 1))]).run Try.prog W2 = .ok (.tuple #[]) W3) ∧
      W3.ownsRow 0 84 2 (.slice (some ⟨g0, 0, none⟩) (l.eraseIdx i).length cap) (l.eraseIdx i).length (flatM (l.eraseIdx i)) ∧ w.grownBy W3 (some g0) := by
  obtain ⟨cur, hg, hs, hl, hc, hu⟩ := mrow_blk h
  obtain ⟨i0, hi0, hz0, hz1, hz2⟩ := info84
  have hm : (l.drop (i + 1)).length = l.length - (i + 1) := by simp
  obtain ⟨m, hmd⟩ : ∃ m, m = l.drop (i + 1) := ⟨_, rfl⟩
  rw [← hmd] at had hm
  have hFl := flatM_length m
  have hcell : ∀ {W : World} {cu : Array Value}, W.heap[g0]? = some (.cells cu 84) → ∀ j, j < cu.size → (W.cell? ⟨g0, j, none⟩).isSome = true := fun {W cu} hW j hj => by
    rw [cell_blk hW j cu[j] (by simp [hj])]; rfl
  have happ : ∀ ty, (Builtin.append_ #[69, 69] ty #[.slice (some ⟨g0, 0, none⟩) i cap, .slice (some ad) m.length c]).run Try.prog w = .ok (.slice (some ⟨g0, 0, none⟩) (i + m.length) cap) (w.setCells g0 (0 + i * 2) (flatM m)) := fun ty => by
    have := run_append_room_cells (P := Try.prog) (w := w) 69 ty 84 i0 Try.underlying69 hi0 g0 0 i cap ad m.length c (flatM m) (by rw [hz1]; exact hFl) had (flatM_one m) (by omega) (by rw [hz1]; exact fun j hj => hcell hg _ (by omega)) (by rw [hz1]; exact fun j hj => frz_blk hg _)
    rw [hz1] at this
    exact this
  rw [hm] at happ
  rw [show i + (l.length - (i + 1)) = l.length - 1 by omega] at happ
  obtain ⟨cur2, h2, h2s, h2a, h2b⟩ := setCells_blk (flatM m) (0 + i * 2) w cur hg (by omega)
  obtain ⟨zs, hzl, hclr⟩ := run_clear84 (w.setCells g0 (0 + i * 2) (flatM m)) 0 g0 ((l.length - 1) * 2) 1 (cap - (l.length - 1)) (by omega) (fun j hj => hcell h2 _ (by omega)) (fun j hj => frz_blk h2 _)
  obtain ⟨cur3, h3, h3s, h3a, h3b⟩ := setCells_blk zs ((l.length - 1) * 2) (w.setCells g0 (0 + i * 2) (flatM m)) cur2 h2 (by omega)
  refine ⟨_, _, happ, fun ty => hclr, ?_, ?_⟩
  · have hln : (l.eraseIdx i).length = l.length - 1 := by rw [List.length_eraseIdx, if_pos hi]
    have hle : l.eraseIdx i = l.take i ++ m := by rw [List.eraseIdx_eq_take_drop_succ, hmd]
    refine mrow_of h3 (by omega) (by omega) hc ?_
    intro j u hj
    have hj3 : j < (l.length - 1) * 2 := by
      have := (List.getElem?_eq_some_iff.1 hj).1
      rw [flatM_length, hln] at this
      exact this
    rw [h3a j hj3]
    rw [hle, flatM_append, flatM_take] at hj
    have hlk : ((flatM l).take (i * 2)).length = i * 2 := by rw [List.length_take, flatM_length]; omega
    by_cases hji : j < i * 2
    · rw [h2a j (by omega)]
      rw [List.getElem?_append_left (by omega), List.getElem?_take, if_pos hji] at hj
      exact hu j u hj
    · rw [List.getElem?_append_right (by omega), hlk] at hj
      have := h2b (j - i * 2) (by omega)
      rw [show 0 + i * 2 + (j - i * 2) = j by omega] at this
      rw [this]
      exact hj
  · exact (setCells_grown g0 _ _ w).trans (setCells_grown g0 _ _ _)
theorem step_append_run {w : World} {ops : Array Oper} {o : Oper} {a : Act} {K : Act → World → Prop} {Q : Exit → Act → World → Prop} {E : Prop} (hgd : o.guard = none) (sl x : Operand)
    (ho : o.op = .call { callee := .builtin .append, args := #[sl, x], argTypes := #[69, 69] }) (v1 v2 v' : Value) (w' : World) (hs : a.eval sl = v1) (hx : a.eval x = v2)
    (hr : ∀ ty, (Builtin.append_ #[69, 69] ty #[v1, v2]).run Try.prog w = .ok v' w') (h : K (a.put o.dst v') w') :
    if Region.wanted o (yielded ops a.tmps) = true then Oper.wp Try.prog o a w K Q else E := by
  have hw : Region.wanted o (yielded ops a.tmps) = true := by simp [Region.wanted, hgd]
  rw [if_pos hw]
  have hr' := hr o.type
  unfold Oper.wp execOp
  simp only [ho, resolve, invoke, builtin, Sem.run_bind, Sem.run_pure, Result.andThen_ok, List.map_toArray, List.map_cons, List.map_nil, hs, hx, hr']
  exact h
set_option maxHeartbeats 1600000 in
theorem delete_any {w : World} {g cap : Nat} {l : List Mb} (h : w.ownsRow 0 84 2 (.slice (some ⟨g, 0, none⟩) l.length cap) l.length (flatM l)) (hf : l.length ≤ 1000) (i : Nat) (hi : i < l.length) :
    Calls Try.prog 71 #[.slice (some ⟨g, 0, none⟩) l.length cap, .int .i64 (i : Int), .int .i64 ((i : Int) + 1)] w fun e w' => e = .returned (.slice (some ⟨g, 0, none⟩) (l.eraseIdx i).length cap) ∧ w'.ownsRow 0 84 2 (.slice (some ⟨g, 0, none⟩) (l.eraseIdx i).length cap) (l.eraseIdx i).length (flatM (l.eraseIdx i)) ∧ w.grownBy w' (some g) := by
  obtain ⟨_, _, _, hcap, hcm, _⟩ : ∃ a c, Value.slice (some ⟨g, 0, none⟩) l.length cap = .slice a l.length c ∧ l.length ≤ cap ∧ cap ≤ maxLen ∧ True := by
    obtain ⟨cur, hg, hs, hl, hc, hu⟩ := mrow_blk h
    exact ⟨_, _, rfl, hl, hc, trivial⟩
  unfold maxLen at hcm
  have hln : (l.eraseIdx i).length = l.length - 1 := by rw [List.length_eraseIdx, if_pos hi]
  obtain ⟨cur, hg, hs, hl, hc, hu⟩ := mrow_blk h
  have hcap2 : l.length ≤ cap := hl
  have hnl : (l.length : Int) ≤ (cap : Int) := by omega
  have hil : (i : Int) + 1 ≤ (l.length : Int) := by omega
  have hlc : l.length ≤ 9223372036854775806 := by omega
  have hd : w.drew.ownsRow 0 84 2 (.slice (some ⟨g, 0, none⟩) l.length cap) l.length (flatM l) := row_kept h (fun k hk => rfl)
  have hwd : ∀ W3, w.drew.grownBy W3 (some g) → w.grownBy W3 (some g) := fun W3 k => ⟨k.os, k.tape, k.output, k.size, k.block⟩
  by_cases hlast : cap = i + 1
  · have hn : l.length = i + 1 := by omega
    obtain ⟨W2, W3, happ, hclr, he, hgw⟩ := delete_rows hd i hi ⟨g, 0, none⟩ 0 (fun j u hu => by rw [List.drop_eq_nil_of_le (by omega)] at hu; simp [flatM] at hu)
    rw [hln] at he ⊢
    have HE := hid he
    have HG := hid (hwd _ hgw)
    clear he hgw h hg hu hs hd hwd
    generalize flatM (l.eraseIdx i) = F at *
    clear hln
    generalize l.length = n at *
    subst hn
    subst hlast
    clear hil hcap hcap2 hnl hi hl
    simp only [Nat.sub_self, Nat.add_sub_cancel, Nat.add_sub_cancel_left] at happ hclr HE ⊢
    have HAPP := hid happ
    have hne : ¬ ((i : Int) = (i : Int) + 1) := by omega
    have hle : (i : Int) ≤ (i : Int) + 1 := by omega
    have hp1 : (0 : Int) ≤ (i : Int) + 1 := by omega
    clear happ
    go_enter Try.func71, Try.ntmps71
    go_wp2_with fail
    go_region_law (first
      | (refine step_append_run (by rfl) (.tmp 22) (.tmp 25) (by rfl) (.slice (some ⟨g, 0, none⟩) i (i + 1)) (.slice (some ⟨g, 0, none⟩) 0 0) _ W2 (by simp [Act.eval, Act.put]) (by simp [Act.eval, Act.put]) HAPP.out ?_)
      | fail)
    go_wp2_with fail
    go_ret
    exact ⟨rfl, HE.out, HG.out⟩
  · have hsp : i + 1 ≤ l.length := by omega
    have hadr : ∀ j u, (flatM (l.drop (i + 1)))[j]? = some u → w.drew.cell? ((⟨g, (i + 1) * 2, none⟩ : Addr).add j) = some u := fun j u hu2 => by
      rw [flatM_drop, List.getElem?_drop] at hu2
      have := hu _ u hu2
      rw [add_at]
      exact cell_blk (w := w.drew) hg _ _ this
    obtain ⟨W2, W3, happ, hclr, he, hgw⟩ := delete_rows hd i hi ⟨g, (i + 1) * 2, none⟩ (cap - (i + 1)) hadr
    rw [hln] at he ⊢
    have HE := hid he
    have HG := hid (hwd _ hgw)
    clear he hgw h hg hu hs hd hwd hadr
    generalize flatM (l.eraseIdx i) = F at *
    clear hln
    generalize l.length = n at *
    have HAPP := hid happ
    have hne : ¬ ((i : Int) = (i : Int) + 1) := by omega
    have hle : (i : Int) ≤ (i : Int) + 1 := by omega
    have hp1 : (0 : Int) ≤ (i : Int) + 1 := by omega
    have hic : (i : Int) ≤ (cap : Int) := by omega
    have hic1 : (i : Int) + 1 ≤ (cap : Int) := by omega
    have hnc1 : ((n - 1 : Nat) : Int) ≤ (n : Int) := by omega
    have hne2 : ¬ cap = n - 1 := by omega
    have hnn : n - (n - 1) = 1 := by omega
    have hcl2 : ¬ cap = i := by omega
    have hd1 : i + 1 - i = 1 := by omega
    clear happ
    go_enter Try.func71, Try.ntmps71
    go_wp2_with fail
    go_region_law (first
      | (refine step_append_run (by rfl) (.tmp 22) (.tmp 25) (by rfl) (.slice (some ⟨g, 0, none⟩) i cap) (.slice (some ⟨g, (i + 1) * 2, none⟩) (n - (i + 1)) (cap - (i + 1))) _ W2 (by simp [Act.eval, Act.put]) (by simp [Act.eval, Act.put]) HAPP.out ?_)
      | fail)
    go_wp2_with fail
    go_ret
    exact ⟨rfl, HE.out, HG.out⟩
end Go.Proofs.Ytdnpbhijjmlecaa

/- What is told; Read. -/
namespace Go.Proofs.Ytdnpbhijjmlecaa
open Go.RowKit Go.Maps
set_option maxRecDepth 100000
set_option linter.unusedSimpArgs false
set_option linter.unusedVariables false

/-- What is told, on blocks of X. -/
def ToldP (X : Nat → Prop) (w' : World) (t : Td) (e : Ending) : Prop := ∃ a c, e = .returned (.agg #[.int .i64 t.err, .int .i64 t.mem, .int .i64 t.gen, .int .i64 t.off, .slice a t.parts.length c]) ∧ IL w' (.slice a t.parts.length c) t.parts ∧ In X (.slice a t.parts.length c) t.parts
theorem told_nil {X : Nat → Prop} {w' : World} {e m g o : Int} : ToldP X w' ⟨e, m, g, o, []⟩ (.returned (.agg #[.int .i64 e, .int .i64 m, .int .i64 g, .int .i64 o, .slice none 0 0])) := ⟨none, 0, rfl, IL.nil _, In.nil _ _⟩
theorem ToldP.under {X : Nat → Prop} {w w' : World} {t : Td} {e : Ending} (h : ToldP X w t e) (hb : Below w.heap.size w w') : ToldP X w' t e := by
  obtain ⟨a, c, h1, h2, h3⟩ := h
  exact ⟨a, c, h1, h2.under hb, h3⟩
set_option maxHeartbeats 1600000 in
theorem read_any {w : World} {q : Nat} {vm vp vo : Value} {x : Gr} (h : GrR w q vm vp vo x) (m : Rc) (hc : I64 m.c) (la : Option Addr) (ln lc : Nat) :
    Calls Try.prog 63 #[.pointer (some ⟨q, 0, none⟩), recV m (.slice la ln lc)] w fun e w' => ToldP (fun b => w.heap.size ≤ b) w' (readI x m).2 e ∧ Below w.heap.size w w' := by
  have hT := tb_new (fun _ => False) w (recA m (.slice la ln lc)) zTd
  have HT := hid hT
  have HR := hid (h.under hT.k.base)
  have HO : Hid (∀ V, Below ((w.alloc (.cells (recA m (.slice la ln lc)) 32)).alloc (.cells zTd 36)).heap.size ((w.alloc (.cells (recA m (.slice la ln lc)) 32)).alloc (.cells zTd 36)) V → Calls Try.prog 36 #[.pointer (some ⟨q, 0, none⟩), .int .i64 m.c] V fun e w' => e = .returned (.int .i64 (offI x m.c)) ∧ V = w') := fun V hV => offset_any (HR.out.under hV) m.c hc
  have c0 := HR.out.c0
  have a3 := cell_blk hT.x 3 _ rfl
  have z0 := cell_blk hT.z 0 _ rfl
  have z1 := cell_blk hT.z 1 _ rfl
  have z2 := cell_blk hT.z 2 _ rfl
  have z3 := cell_blk hT.z 3 _ rfl
  have z4 := cell_blk hT.z 4 _ rfl
  have fz := frz_blk hT.z
  have hq := h.lt
  have hn1 : ¬ q = w.heap.size + 1 := by omega
  have hn2 : ¬ w.heap.size + 1 = q := by omega
  have HTOLD : Hid ((readI x m).2 = ⟨0, 0, x.gen, offI x m.c, []⟩) := rfl
  generalize (readI x m).2 = T at *
  unfold recV recA zTd at *
  clear h hT
  go_enter Try.func63, Try.ntmps63
  go_wp2_with fail
  generalize (w.alloc (.cells #[.int .i64 m.kind, .int .i64 m.a, .int .i64 m.b, .int .i64 m.c, .int .i64 m.d, .string m.name, .string m.text, .slice la ln lc] 32)).alloc (.cells #[.int .i64 0, .int .i64 0, .int .i64 0, .int .i64 0, .slice none 0 0] 36) = W at *
  generalize offI x m.c = o at *
  generalize x.gen = g at *
  go_region_held3 (fun V => V.cell? ⟨q, 0, none⟩ = some (.int .i64 g) ∧ V.cell? ⟨w.heap.size, 3, none⟩ = some (.int .i64 m.c)) (go_keep)
    (first | (go_at_call 36; refine (HO.out _ (by first | exact Below.refl _ _ | exact (Below.refl _ _).drew)).mono ?_; rintro e w1 ⟨rfl, rfl⟩) | fail)
  go_wp2_with fail
  have HT5 := hid ((HT.out).five rfl (.int .i64 0) (.int .i64 0) (.int .i64 g) (.int .i64 o) (.slice none 0 0))
  have HK5 := hid (five_keeps (W) (w.heap.size + 1) (.int .i64 0) (.int .i64 0) (.int .i64 g) (.int .i64 o) (.slice none 0 0))
  unfold five at HT5 HK5
  generalize ((((W.setCell ⟨w.heap.size + 1, 0, none⟩ (.int .i64 0)).setCell ⟨w.heap.size + 1, 1, none⟩ (.int .i64 0)).setCell ⟨w.heap.size + 1, 2, none⟩ (.int .i64 g)).setCell ⟨w.heap.size + 1, 3, none⟩ (.int .i64 o)).setCell ⟨w.heap.size + 1, 4, none⟩ (.slice none 0 0) = N5 at *
  have r0 := cell_blk HT5.out.z 0 _ rfl
  have r1 := cell_blk HT5.out.z 1 _ rfl
  have r2 := cell_blk HT5.out.z 2 _ rfl
  have r3 := cell_blk HT5.out.z 3 _ rfl
  have r4 := cell_blk HT5.out.z 4 _ rfl
  exact bodyPost_ret (v := .agg #[.int .i64 0, .int .i64 0, .int .i64 g, .int .i64 o, .slice none 0 0]) (by simp [results, Try.results63, go_sem, r0, r1, r2, r3, r4]) rfl (by rw [HTOLD.out]; exact ⟨told_nil, HT5.out.k.base.drew⟩)
end Go.Proofs.Ytdnpbhijjmlecaa

/- Sync. -/
namespace Go.Proofs.Ytdnpbhijjmlecaa
open Go.RowKit Go.Maps
set_option maxRecDepth 100000
set_option linter.unusedSimpArgs false
set_option linter.unusedVariables false

theorem IL.keeps {w w' : World} {S : Nat → Prop} {v : Value} {l : List Int} (h : IL w v l) (hk : Keeps S w w') (hX : In (fun k => ¬ S k) v l) : IL w' v l := by
  obtain ⟨⟨a, cap, rfl, h1, h2, h3, h4⟩, h5, h6⟩ := h
  refine ⟨⟨a, cap, rfl, h1, h2, h3, fun hn => ?_⟩, h5, h6⟩
  obtain ⟨b, off, rfl, e2, e3⟩ := h4 hn
  exact ⟨b, off, rfl, Nat.lt_of_lt_of_le e2 hk.size, fun i hi => (World.cell?_of_block (a := ⟨b, off + i, none⟩) (hk.block b e2 (hX hn b off _ _ rfl))).trans (e3 i hi)⟩
set_option maxHeartbeats 1600000 in
theorem sync_any {w : World} {q : Nat} {vm vp vo : Value} {x : Gr} (h : GrR w q vm vp vo x) (hf : x.mem.length ≤ 1000) (h64 : ∀ y ∈ x.mem, I64 y.id) (m : Rc) (la : Option Addr) (ln lc : Nat) :
    Calls Try.prog 62 #[.pointer (some ⟨q, 0, none⟩), recV m (.slice la ln lc)] w fun e w' => ToldP (fun b => w.heap.size ≤ b) w' (syncI x m).2 e ∧ Below w.heap.size w w' := by
  have hT := tb_new (fun _ => False) w (recA m (.slice la ln lc)) zTd
  have HT := hid hT
  have HR := hid (h.under hT.k.base)
  have HME := hid (memE_any HR.out hf m la ln lc)
  have a0 := cell_blk hT.x 0 _ rfl
  have a1 := cell_blk hT.x 1 _ rfl
  have a2 := cell_blk hT.x 2 _ rfl
  have a3 := cell_blk hT.x 3 _ rfl
  have a4 := cell_blk hT.x 4 _ rfl
  have a5 := cell_blk hT.x 5 _ rfl
  have a6 := cell_blk hT.x 6 _ rfl
  have a7 := cell_blk hT.x 7 _ rfl
  have hq := h.lt
  have hn1 : ¬ q = w.heap.size + 1 := by omega
  have hn2 : ¬ w.heap.size + 1 = q := by omega
  have HTOLD : Hid ((syncI x m).2 = if memE x m ≠ 0 then errT (memE x m) else ⟨0, m.a, x.gen, 0, partsOf x m.a⟩) := by
    show _ = _
    unfold syncI
    split <;> rfl
  have HMH := hid (memE_has (x := x) (m := m))
  have HP : Hid (hasM x m.a = true → ∀ V, Below ((w.alloc (.cells (recA m (.slice la ln lc)) 32)).alloc (.cells zTd 36)).heap.size ((w.alloc (.cells (recA m (.slice la ln lc)) 32)).alloc (.cells zTd 36)) V → Calls Try.prog 49 #[.pointer (some ⟨q, 0, none⟩), .int .i64 m.a] V fun e w' => ∃ v', e = .returned v' ∧ IL w' v' (partsOf x m.a) ∧ In (fun b => V.heap.size ≤ b) v' (partsOf x m.a) ∧ Below V.heap.size V w') := fun hh V hV => partsOf_any (HR.out.under hV) hf h64 m.a hh
  have HC : Hid (∀ V, Below ((w.alloc (.cells (recA m (.slice la ln lc)) 32)).alloc (.cells zTd 36)).heap.size ((w.alloc (.cells (recA m (.slice la ln lc)) 32)).alloc (.cells zTd 36)) V → V.cell? ⟨w.heap.size, 1, none⟩ = some (.int .i64 m.a) ∧ V.cell? ⟨q, 0, none⟩ = some (.int .i64 x.gen) ∧ TB (fun _ => False) w V (recA m (.slice la ln lc)) zTd) := fun V hV => ⟨kept_cell hV a1, (HR.out.under hV).c0, HT.out.under hV⟩
  generalize (syncI x m).2 = T at *
  generalize memE x m = E0 at *
  unfold recV recA zTd at *
  clear h hT
  by_cases h0 : E0 = 0
  · subst h0
    have HPO := hid (HP.out (HMH.out rfl).1)
    rw [if_neg (by simp)] at HTOLD
    clear HP HMH
    go_enter Try.func62, Try.ntmps62
    go_wp2_with fail
    generalize (w.alloc (.cells #[.int .i64 m.kind, .int .i64 m.a, .int .i64 m.b, .int .i64 m.c, .int .i64 m.d, .string m.name, .string m.text, .slice la ln lc] 32)).alloc (.cells #[.int .i64 0, .int .i64 0, .int .i64 0, .int .i64 0, .slice none 0 0] 36) = W at *
    refine HME.out.mono ?_
    rintro e w1 ⟨rfl, hb1⟩
    obtain ⟨b1, c0, ht1⟩ := HC.out w1 hb1
    have HT1 := hid ht1
    have HB1 := hid hb1
    clear hb1 ht1 HME a0 a1 a2 a3 a4 a5 a6 a7
    generalize x.gen = g at *
    generalize m.a = ma at *
    go_wp2_with fail
    go_region_held3 (fun V => V.cell? ⟨q, 0, none⟩ = some (.int .i64 g) ∧ V.cell? ⟨w.heap.size, 1, none⟩ = some (.int .i64 ma)) (go_keep)
      (first | (go_at_call 49; refine (HPO.out _ (by first | exact HB1.out | exact HB1.out.drew)).mono ?_; rintro e w2 ⟨v', rfl, hi2, hin2, hb2⟩; obtain ⟨va, vn, vc, rfl⟩ : ∃ a n c, v' = .slice a n c := (by obtain ⟨⟨a, cap, e, _⟩, _⟩ := hi2; exact ⟨_, _, _, e⟩); have HI2 := hid hi2; have HIN2 := hid hin2; have HB2 := hid hb2; obtain ⟨d1, d2, ht2⟩ := HC.out w2 ((show Below W.heap.size W _ by first | exact HB1.out | exact HB1.out.drew).trans (hb2.mono (show Below W.heap.size W _ by first | exact HB1.out | exact HB1.out.drew).size)); have z0 := cell_blk ht2.z 0 _ rfl; have z1 := cell_blk ht2.z 1 _ rfl; have z2 := cell_blk ht2.z 2 _ rfl; have z3 := cell_blk ht2.z 3 _ rfl; have z4 := cell_blk ht2.z 4 _ rfl; have fz := frz_blk ht2.z; have HT2 := hid ht2; clear hi2 hin2 hb2 ht2) | fail)
    go_wp2_with fail
    obtain rfl : vn = (partsOf x ma).length := by obtain ⟨⟨a, cap, e, _⟩, _⟩ := HI2.out; cases e; rfl
    have hs1 := HT1.out.s
    clear z0 z1 z2 z3 z4 fz
    have HT5 := hid ((HT2.out).five rfl (.int .i64 0) (.int .i64 ma) (.int .i64 g) (.int .i64 0) (.slice va (partsOf x ma).length vc))
    have HK5 := hid (five_keeps (w2) (w.heap.size + 1) (.int .i64 0) (.int .i64 ma) (.int .i64 g) (.int .i64 0) (.slice va (partsOf x ma).length vc))
    unfold five at HT5 HK5
    generalize ((((w2.setCell ⟨w.heap.size + 1, 0, none⟩ (.int .i64 0)).setCell ⟨w.heap.size + 1, 1, none⟩ (.int .i64 ma)).setCell ⟨w.heap.size + 1, 2, none⟩ (.int .i64 g)).setCell ⟨w.heap.size + 1, 3, none⟩ (.int .i64 0)).setCell ⟨w.heap.size + 1, 4, none⟩ (.slice va (partsOf x ma).length vc) = N5 at *
    have r0 := cell_blk HT5.out.z 0 _ rfl
    have r1 := cell_blk HT5.out.z 1 _ rfl
    have r2 := cell_blk HT5.out.z 2 _ rfl
    have r3 := cell_blk HT5.out.z 3 _ rfl
    have r4 := cell_blk HT5.out.z 4 _ rfl
    exact bodyPost_ret (v := .agg #[.int .i64 0, .int .i64 ma, .int .i64 g, .int .i64 0, .slice va (partsOf x ma).length vc]) (by simp [results, Try.results62, go_sem, r0, r1, r2, r3, r4]) rfl (by rw [HTOLD.out]; exact ⟨⟨va, vc, rfl, HI2.out.keeps HK5.out (HIN2.out.mono fun b hb => by have : w1.heap.size ≤ b := hb; omega), HIN2.out.mono fun b hb => by have : w1.heap.size ≤ b := hb; omega⟩, HT5.out.k.base⟩)
  · rw [if_pos h0] at HTOLD
    have h0' : (E0 == 0) = false := by simpa using h0
    clear HP HMH
    go_enter Try.func62, Try.ntmps62
    go_wp2_with fail
    generalize (w.alloc (.cells #[.int .i64 m.kind, .int .i64 m.a, .int .i64 m.b, .int .i64 m.c, .int .i64 m.d, .string m.name, .string m.text, .slice la ln lc] 32)).alloc (.cells #[.int .i64 0, .int .i64 0, .int .i64 0, .int .i64 0, .slice none 0 0] 36) = W at *
    refine HME.out.mono ?_
    rintro e w1 ⟨rfl, hb1⟩
    obtain ⟨b1, c0, ht1⟩ := HC.out w1 hb1
    have z0 := cell_blk ht1.z 0 _ rfl
    have z1 := cell_blk ht1.z 1 _ rfl
    have z2 := cell_blk ht1.z 2 _ rfl
    have z3 := cell_blk ht1.z 3 _ rfl
    have z4 := cell_blk ht1.z 4 _ rfl
    have fz := frz_blk ht1.z
    have HT1 := hid ht1
    clear hb1 ht1 HME a0 a1 a2 a3 a4 a5 a6 a7
    go_wp2_with fail
    clear z0 z1 z2 z3 z4 fz
    have HT5 := hid ((HT1.out).five rfl (.int .i64 E0) (.int .i64 0) (.int .i64 0) (.int .i64 0) (.slice none 0 0))
    have HK5 := hid (five_keeps (w1) (w.heap.size + 1) (.int .i64 E0) (.int .i64 0) (.int .i64 0) (.int .i64 0) (.slice none 0 0))
    unfold five at HT5 HK5
    generalize ((((w1.setCell ⟨w.heap.size + 1, 0, none⟩ (.int .i64 E0)).setCell ⟨w.heap.size + 1, 1, none⟩ (.int .i64 0)).setCell ⟨w.heap.size + 1, 2, none⟩ (.int .i64 0)).setCell ⟨w.heap.size + 1, 3, none⟩ (.int .i64 0)).setCell ⟨w.heap.size + 1, 4, none⟩ (.slice none 0 0) = N5 at *
    have r0 := cell_blk HT5.out.z 0 _ rfl
    have r1 := cell_blk HT5.out.z 1 _ rfl
    have r2 := cell_blk HT5.out.z 2 _ rfl
    have r3 := cell_blk HT5.out.z 3 _ rfl
    have r4 := cell_blk HT5.out.z 4 _ rfl
    exact bodyPost_ret (v := .agg #[.int .i64 E0, .int .i64 0, .int .i64 0, .int .i64 0, .slice none 0 0]) (by simp [results, Try.results62, go_sem, r0, r1, r2, r3, r4]) rfl (by rw [HTOLD.out]; exact ⟨told_nil, HT5.out.k.base⟩)
end Go.Proofs.Ytdnpbhijjmlecaa

