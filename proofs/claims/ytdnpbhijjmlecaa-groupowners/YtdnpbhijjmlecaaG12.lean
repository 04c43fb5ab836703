/- Why a commit is refused. -/
import Derived.Test.YtdnpbhijjmlecaaG11
namespace Go.Proofs.Ytdnpbhijjmlecaa
open Go.RowKit Go.Maps
set_option maxRecDepth 100000
set_option linter.unusedSimpArgs false
set_option linter.unusedVariables false

theorem memE_has {x : Gr} {m : Rc} (h : memE x m = 0) : hasM x m.a = true ∧ m.b = x.gen := by
  unfold memE at h
  split at h
  · omega
  · rename_i h1
    split at h
    · omega
    · rename_i h2
      exact ⟨by simpa using h1, by simpa using h2⟩
theorem one_of {l : List Int} (h : l.length = 1) : ∃ n, l = [n] := List.length_eq_one_iff.1 h
set_option maxHeartbeats 3200000 in
theorem comE_any {w : World} {q : Nat} {vm vp vo : Value} {x : Gr} (h : GrR w q vm vp vo x) (hf : x.mem.length ≤ 1000) (h64 : ∀ y ∈ x.mem, I64 y.id) (m : Rc) (hc : I64 m.c) (la : Option Addr) (lc : Nat) (hl : IL w (.slice la m.list.length lc) m.list) :
    Calls Try.prog 72 #[.pointer (some ⟨q, 0, none⟩), recV m (.slice la m.list.length lc)] w fun e w' => e = .returned (.int .i64 (comE x m)) ∧ Below w.heap.size w w' := by
  have hbA : Below w.heap.size w (w.alloc (.cells (recA m (.slice la m.list.length lc)) 32)) := (Below.refl _ _).alloc (Nat.le_refl _) _
  have HME := hid (memE_any (h.under hbA) hf m la m.list.length lc)
  have HBA := hid hbA
  have hB := heap_alloc_new w (.cells (recA m (.slice la m.list.length lc)) 32)
  have HBX := hid hB
  have HR := hid (h.under hbA)
  have HL := hid (hl.under hbA)
  have a0 := cell_blk hB 0 _ rfl
  have a1 := cell_blk hB 1 _ rfl
  have a2 := cell_blk hB 2 _ rfl
  have a3 := cell_blk hB 3 _ rfl
  have a4 := cell_blk hB 4 _ rfl
  have a5 := cell_blk hB 5 _ rfl
  have a6 := cell_blk hB 6 _ rfl
  have a7 := cell_blk hB 7 _ rfl
  have hq := h.lt
  have hWs : (w.alloc (.cells (recA m (.slice la m.list.length lc)) 32)).heap.size = w.heap.size + 1 := by simp
  have HF : Hid (comE x m = if memE x m ≠ 0 then memE x m else if offB m.d = false ∨ oneB m.list = false then 1 else if m.list.headD 0 ≤ numOf x m.a then 12 else if ownerI x m.c ≠ m.a then 19 else 0) := rfl
  have HMH := hid (memE_has (x := x) (m := m))
  unfold recV recA at *
  clear h hbA hB hl
  generalize comE x m = E at *
  generalize memE x m = E0 at *
  by_cases h0 : E0 = 0
  · subst h0
    have hhas := hid (HMH.out rfl).1
    rw [if_neg (by simp)] at HF
    go_enter Try.func72, Try.ntmps72
    go_wp2_with fail
    generalize w.alloc (.cells #[.int .i64 m.kind, .int .i64 m.a, .int .i64 m.b, .int .i64 m.c, .int .i64 m.d, .string m.name, .string m.text, .slice la m.list.length lc] 32) = W at *
    obtain ⟨y, hy⟩ : ∃ y, y = w.heap.size := ⟨_, rfl⟩
    have HY := hid hy
    rw [← hy] at a0 a1 a2 a3 a4 a5 a6 a7 hWs hq HBX ⊢
    clear hy
    refine HME.out.mono ?_
    rintro e w1 ⟨rfl, hb1⟩
    have HC : Hid (∀ V, Below W.heap.size W V → V.cell? ⟨y, 1, none⟩ = some (.int .i64 m.a) ∧ V.cell? ⟨y, 3, none⟩ = some (.int .i64 m.c) ∧ V.cell? ⟨y, 4, none⟩ = some (.int .i64 m.d) ∧ V.cell? ⟨y, 7, none⟩ = some (.slice la m.list.length lc)) := fun V hV => ⟨kept_cell hV a1, kept_cell hV a3, kept_cell hV a4, kept_cell hV a7⟩
    obtain ⟨b1, b3, b4, b7⟩ := HC.out w1 hb1
    have HB1 := hid hb1
    clear hb1 a0 a1 a2 a3 a4 a5 a6 a7 HME HMH
    have hMx : (m.list.length : Int) ≤ 17592186044415 := by have := HL.out.few; omega
    cases hd : offB m.d with
    | false =>
      rw [if_pos (.inl hd)] at HF
      go_wp2_with (first | (go_at_call 85; refine (isOffset_any _ _).mono ?_; rintro e w2 ⟨rfl, rfl⟩) | fail)
      go_ret
      exact ⟨ret_int HF.out.symm, HBA.out.trans (HB1.out.mono HBA.out.size)⟩
    | true =>
      by_cases hln : m.list.length = 1
      · obtain ⟨n, hn⟩ := one_of hln
        have HN := hid hn
        have hcl : ∃ b o, la = some ⟨b, o, none⟩ ∧ ∀ V, Below W.heap.size W V → V.cell? ⟨b, o, none⟩ = some (.int .i64 n) := by
          obtain ⟨⟨a', c', e', _, _, _, hat⟩, _⟩ := HL.out
          simp only [Value.slice.injEq] at e'
          obtain ⟨b, o, e2, _, hcc⟩ := hat (by rw [hn]; simp)
          refine ⟨b, o, e'.1.trans e2, fun V hV => ?_⟩
          have := hcc 0 (by rw [hn]; simp)
          have e3 : m.list[0]'(by rw [hn]; simp) = n := by simp [hn]
          rw [e3] at this
          exact kept_cell hV this
        obtain ⟨lb, lo, rfl, hlc⟩ := hcl
        have HLC := hid hlc
        have c1 := hlc w1 HB1.out
        have hone : oneB m.list = offB n := by unfold oneB; rw [hn]; simp
        have hhd : m.list.headD 0 = n := by rw [hn]; rfl
        rw [hone, hhd] at HF
        rw [hln] at *
        clear hone hhd hn hlc hln
        cases hn2 : offB n with
        | false =>
          rw [if_pos (.inr hn2)] at HF
          go_wp2_with (first | (go_at_call 85; refine (isOffset_any _ _).mono ?_; rintro e w2 ⟨rfl, rfl⟩) | fail)
          go_ret
          exact ⟨ret_int HF.out.symm, HBA.out.trans (HB1.out.mono HBA.out.size)⟩
        | true =>
          rw [if_neg (by simp [hd, hn2])] at HF
          -- the member's place
          obtain ⟨p, hp⟩ := Option.isSome_iff_exists.1 (show (placeN x.mem m.a).isSome = true from hhas.out)
          obtain ⟨mb, hmb, hid1, hpl⟩ := place_some hp
          have hnum : numOf x m.a = mb.num := by unfold numOf; rw [hp]; simp [hmb]
          rw [hnum] at HF
          have hpi : placeI x.mem m.a = p := by unfold placeI; rw [hp]
          have HPL : Hid (∀ V, Below W.heap.size W V → Calls Try.prog 59 #[.pointer (some ⟨q, 0, none⟩), .int .i64 m.a] V fun e w' => e = .returned (.int .i64 (p : Int)) ∧ Below V.heap.size V w') := fun V hV => by rw [← hpi]; exact place_any (HR.out.under hV) hf m.a
          have HOW : Hid (∀ V, Below W.heap.size W V → Calls Try.prog 35 #[.pointer (some ⟨q, 0, none⟩), .int .i64 m.c] V fun e w' => e = .returned (.int .i64 (ownerI x m.c)) ∧ Below V.heap.size V w') := fun V hV => owner_any (HR.out.under hV) hf h64 m.c hc
          obtain ⟨oa, cap, rfl, hcap, hcm, _, hat⟩ := row_shape HR.out.mem
          obtain ⟨g, rfl⟩ := hat (by omega)
          have HMC : Hid (∀ V, Below W.heap.size W V → V.cell? ⟨q, 2, none⟩ = some (.slice (some ⟨g, 0, none⟩) x.mem.length cap) ∧ V.cell? ⟨g, p * 2 + 1, none⟩ = some (.int .i64 mb.num) ∧ V.cell? ⟨y, 1, none⟩ = some (.int .i64 m.a) ∧ V.cell? ⟨y, 7, none⟩ = some (.slice (some ⟨lb, lo, none⟩) 1 lc) ∧ V.cell? ⟨lb, lo, none⟩ = some (.int .i64 n)) := fun V hV => ⟨(HR.out.under hV).c2, (row_mem (HR.out.under hV).mem p mb hmb).2, (HC.out V hV).1, (HC.out V hV).2.2.2, HLC.out V hV⟩
          obtain ⟨d1, d2, d3, d4, d5⟩ := HMC.out w1 HB1.out
          have hp0 : (0 : Int) ≤ (p : Int) := by omega
          have hp1 : (p : Int) < (x.mem.length : Int) := by omega
          clear hat hcap hcm hp hmb hid1 hpi hnum hhas hpl HL HN
          generalize x.mem.length = K at *
          generalize mb.num = u at *
          by_cases hu : n ≤ u
          · rw [if_pos hu] at HF
            go_wp2_with (first | (go_at_call 85; refine (isOffset_any _ _).mono ?_; rintro e w2 ⟨rfl, rfl⟩) | fail)
            go_region_held3 (fun V => V.cell? ⟨q, 2, none⟩ = some (.slice (some ⟨g, 0, none⟩) K cap) ∧ V.cell? ⟨g, p * 2 + 1, none⟩ = some (.int .i64 u) ∧ V.cell? ⟨y, 1, none⟩ = some (.int .i64 m.a) ∧ V.cell? ⟨y, 7, none⟩ = some (.slice (some ⟨lb, lo, none⟩) 1 lc) ∧ V.cell? ⟨lb, lo, none⟩ = some (.int .i64 n)) (go_keep)
              (first | (go_at_call 59; refine (HPL.out _ (by first | exact HB1.out | exact HB1.out.drew)).mono ?_; rintro e w3 ⟨rfl, hb3⟩; have HB3 := hid ((show Below W.heap.size W _ by first | exact HB1.out | exact HB1.out.drew).trans (hb3.mono (show Below W.heap.size W _ by first | exact HB1.out | exact HB1.out.drew).size)); obtain ⟨f1, f2, f3, f4, f5⟩ := HMC.out w3 HB3.out; clear hb3) | fail)
            go_wp2_with fail
            go_ret
            exact ⟨ret_int HF.out.symm, HBA.out.trans (HB3.out.mono HBA.out.size)⟩
          · rw [if_neg hu] at HF
            go_wp2_with (first | (go_at_call 85; refine (isOffset_any _ _).mono ?_; rintro e w2 ⟨rfl, rfl⟩) | fail)
            go_region_held3 (fun V => V.cell? ⟨q, 2, none⟩ = some (.slice (some ⟨g, 0, none⟩) K cap) ∧ V.cell? ⟨g, p * 2 + 1, none⟩ = some (.int .i64 u) ∧ V.cell? ⟨y, 1, none⟩ = some (.int .i64 m.a) ∧ V.cell? ⟨y, 7, none⟩ = some (.slice (some ⟨lb, lo, none⟩) 1 lc) ∧ V.cell? ⟨lb, lo, none⟩ = some (.int .i64 n)) (go_keep)
              (first | (go_at_call 59; refine (HPL.out _ (by first | exact HB1.out | exact HB1.out.drew)).mono ?_; rintro e w3 ⟨rfl, hb3⟩; have HB3 := hid ((show Below W.heap.size W _ by first | exact HB1.out | exact HB1.out.drew).trans (hb3.mono (show Below W.heap.size W _ by first | exact HB1.out | exact HB1.out.drew).size)); obtain ⟨f1, f2, f3, f4, f5⟩ := HMC.out w3 HB3.out; clear hb3) | fail)
            have f6 := (HC.out w3 HB3.out).2.1
            clear f1 f2 f4 f5 d1 d2 d3 d4 d5 b1 b3 b4 b7 c1
            by_cases ho : ownerI x m.c = m.a
            · rw [if_neg (by simpa using ho)] at HF
              rw [ho] at HOW
              clear ho
              generalize m.a = ma at *
              generalize m.c = mc at *
              go_wp2_with fail
              go_region_held3 (fun V => V.cell? ⟨y, 3, none⟩ = some (.int .i64 mc) ∧ V.cell? ⟨y, 1, none⟩ = some (.int .i64 ma)) (go_keep)
                (first | (go_at_call 35; refine (HOW.out _ (by first | exact HB3.out | exact HB3.out.drew)).mono ?_; rintro e w4 ⟨rfl, hb4⟩; have HB4 := hid ((show Below W.heap.size W _ by first | exact HB3.out | exact HB3.out.drew).trans (hb4.mono (show Below W.heap.size W _ by first | exact HB3.out | exact HB3.out.drew).size)); obtain ⟨j1, j2, _, _⟩ := HC.out w4 HB4.out; clear hb4) | fail)
              go_wp2_with fail
              go_ret
              exact ⟨ret_int HF.out.symm, HBA.out.trans (HB4.out.mono HBA.out.size)⟩
            · rw [if_pos ho] at HF
              generalize ownerI x m.c = ow at *
              generalize m.a = ma at *
              generalize m.c = mc at *
              go_wp2_with fail
              go_region_held3 (fun V => V.cell? ⟨y, 3, none⟩ = some (.int .i64 mc) ∧ V.cell? ⟨y, 1, none⟩ = some (.int .i64 ma)) (go_keep)
                (first | (go_at_call 35; refine (HOW.out _ (by first | exact HB3.out | exact HB3.out.drew)).mono ?_; rintro e w4 ⟨rfl, hb4⟩; have HB4 := hid ((show Below W.heap.size W _ by first | exact HB3.out | exact HB3.out.drew).trans (hb4.mono (show Below W.heap.size W _ by first | exact HB3.out | exact HB3.out.drew).size)); obtain ⟨j1, j2, _, _⟩ := HC.out w4 HB4.out; clear hb4) | fail)
              go_wp2_with fail
              go_ret
              exact ⟨ret_int HF.out.symm, HBA.out.trans (HB4.out.mono HBA.out.size)⟩
      · have hone : oneB m.list = false := by unfold oneB; simp [hln]
        rw [if_pos (.inr hone)] at HF
        have hln' : ¬ (m.list.length : Int) = 1 := by omega
        clear hone
        go_wp2_with (first | (go_at_call 85; refine (isOffset_any _ _).mono ?_; rintro e w2 ⟨rfl, rfl⟩) | fail)
        go_ret
        exact ⟨ret_int HF.out.symm, HBA.out.trans (HB1.out.mono HBA.out.size)⟩
  · rw [if_pos h0] at HF
    have h0' : (E0 == 0) = false := by simpa using h0
    go_enter Try.func72, Try.ntmps72
    go_wp2_with fail
    refine HME.out.mono ?_
    rintro e w1 ⟨rfl, hb1⟩
    have HB1 := hid (HBA.out.trans (hb1.mono HBA.out.size))
    clear hb1 HME a0 a1 a2 a3 a4 a5 a6 a7
    go_wp2_with fail
    go_ret
    exact ⟨ret_int HF.out.symm, HB1.out⟩
end Go.Proofs.Ytdnpbhijjmlecaa
