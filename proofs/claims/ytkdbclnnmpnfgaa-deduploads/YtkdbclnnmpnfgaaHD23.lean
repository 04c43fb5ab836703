/- readNotes. -/
import Derived.Test.YtkdbclnnmpnfgaaHD22
import Derived.Test.YtkdbclnnmpnfgaaH12
import Derived.Deep.Onto
namespace Go.Proofs.Ytkdbclnnmpnfgaa
open Go.RowKit Go.Maps
set_option maxRecDepth 100000
set_option linter.unusedSimpArgs false
set_option linter.unusedVariables false

/-- Notes that are being read. -/
structure RdAt (w wr : World) (rq : Nat) (s : RS) (sv : Value) (acc : List Nt) : Prop where
  rd : Pd wr rq s
  row : wr.ownsRow w.heap.size 64 4 sv acc.length (flatN acc)
  grown : w.grownBy wr (some rq)
theorem RdAt.lt {w wr : World} {rq : Nat} {s : RS} {sv : Value} {acc : List Nt} (h : RdAt w wr rq s sv acc) : ∀ k, sv.ownBlock = some k → w.heap.size ≤ k ∧ k < wr.heap.size := fun k hk => World.ownsRow.lt h.row k hk
theorem RdAt.read {w wr w' : World} {rq : Nat} {s s' : RS} {sv : Value} {acc : List Nt} (h : RdAt w wr rq s sv acc) (hq : rq < w.heap.size) (h1 : Pd w' rq s') (h2 : wr.grownBy w' (some rq)) : RdAt w w' rq s' sv acc :=
  ⟨h1, h.row.kept h2 (by
    cases hs : sv.ownBlock with
    | none => exact .inl rfl
    | some k => exact .inr (fun e => by cases e; have := (h.lt rq hs).1; omega)), h.grown.trans h2⟩
theorem RdAt.under {w wr w' : World} {rq : Nat} {s : RS} {sv : Value} {acc : List Nt} (h : RdAt w wr rq s sv acc) (hb : Below wr.heap.size wr w') : RdAt w w' rq s sv acc :=
  ⟨h.rd.kept (hb.block rq h.rd.lt), h.row.kept (row := none) ⟨hb.os, hb.tape, hb.output, hb.size, fun k hk _ => hb.block k hk⟩ (by cases sv.ownBlock <;> simp), h.grown.trans (grown_below hb)⟩
theorem RdAt.nl {w wr : World} {rq : Nat} {s : RS} {sv : Value} {acc : List Nt} (h : RdAt w wr rq s sv acc) : NL wr sv acc := World.ownsRow.mono h.row (Nat.zero_le _)
theorem RdAt.push {w wr w' : World} {rq : Nat} {s : RS} {sv v' : Value} {acc : List Nt} {x : Nt} (h : RdAt w wr rq s sv acc) (hq : rq < w.heap.size) (h1 : w'.ownsRow w.heap.size 64 4 v' (acc.length + 1) (flatN acc ++ ntCells x)) (h2 : wr.grownBy w' sv.ownBlock) : RdAt w w' rq s v' (acc ++ [x]) := by
  have hrl := h.rd.lt
  refine ⟨h.rd.kept (h2.block rq hrl (fun e => by have := (h.lt rq e.symm).1; omega)), ?_, h.grown.andThen h2 (fun j hj => .inl (h.lt j hj).1)⟩
  rw [flat_snoc, List.length_append]
  exact h1

set_option maxHeartbeats 12800000 in
theorem readNotes_any {w : World} {rq : Nat} {s : RS} (h : Pd w rq s) (most : Nat) (hm : most ≤ 100000) :
    Calls Try.prog 46 #[.pointer (some ⟨rq, 0, none⟩), .int .i64 (most : Int)] w fun e w' => ∃ v', e = .returned v' ∧ RdAt w w' rq (notesR (most : Int) s).2 v' (notesR (most : Int) s).1 ∧ LOk (notesR (most : Int) s).1 ∧ (notesR (most : Int) s).1.length ≤ most := by
  have hq := h.lt
  have HC := hid (pcount_any h (most : Int) (by omega))
  have hcr := countS_range (most : Int) s (by omega)
  have HN : Hid (notesR (most : Int) s = ((match (notesS (countS (most : Int) s).1.toNat [] (countS (most : Int) s).2).1 with | some l => l | none => []), (notesS (countS (most : Int) s).1.toNat [] (countS (most : Int) s).2).2)) := rfl
  generalize notesR (most : Int) s = NR at *
  generalize countS (most : Int) s = C at *
  obtain ⟨c, s1⟩ := C
  simp only at *
  obtain ⟨n, hn⟩ : ∃ n : Nat, c = (n : Int) := ⟨c.toNat, by omega⟩
  subst hn
  rw [Int.toNat_natCast] at HN
  have hnm : n ≤ most := by omega
  clear h hcr
  go_enter Try.func46, Try.ntmps46
  go_wp2_with fail
  refine HC.out.mono ?_
  rintro e w1 ⟨rfl, hr1, hg1⟩
  have H1 : Hid (RdAt w w1 rq s1 (.slice none 0 0) []) := ⟨hr1, ⟨rfl, .inl ⟨rfl, rfl⟩⟩, hg1⟩
  clear hr1 hg1 HC
  go_wp2_with fail
  go_loopg [5, 10] n (fun kx s5 s10 wr => ∃ (j : Nat) (acc : List Nt) (sr : RS) (sv : Value), j ≤ n ∧ n - j ≤ kx ∧ s10 = .int .i64 (j : Int) ∧ sv = s5 ∧ Hid (acc.length = j ∧ LOk acc ∧ notesS n [] s1 = notesS (n - j) acc sr ∧ RdAt w wr rq sr sv acc))
  case atStart => exact ⟨0, [], s1, _, by omega, by omega, rfl, rfl, rfl, LOk.nil, rfl, H1.out⟩
  case round =>
    obtain ⟨j, acc, sr, sv, hjn, hjk, rfl, rfl, HJ⟩ := hrel
    clear H1
    by_cases hlt : j < n
    · have hlt' : (j : Int) < (n : Int) := by omega
      have HS : Hid (notesS (n - j) acc sr = if (rightNt (rdN sr).1 && folB acc (rdN sr).1) = true then notesS (n - (j + 1)) (acc ++ [(rdN sr).1]) (rdN sr).2 else (none, (rdN sr).2)) := by
        show _ = _
        have e : n - j = (n - (j + 1)) + 1 := by omega
        rw [e]
        rfl
      have HR : Hid (rdN sr = (⟨(numS sr).1, (numS (numS sr).2).1, (numS (numS (numS sr).2).2).1, (numS (numS (numS (numS sr).2).2).2).1⟩, (numS (numS (numS (numS sr).2).2).2).2)) := rfl
      have P1 := hid (pnum_any HJ.out.2.2.2.rd)
      have i1 := numI64 sr
      have i2 := numI64 (numS sr).2
      have i3 := numI64 (numS (numS sr).2).2
      have i4 := numI64 (numS (numS (numS sr).2).2).2
      generalize numS sr = N1 at *
      obtain ⟨x1, r1⟩ := N1
      simp only at *
      generalize hN2 : numS r1 = N2 at *
      have HN2 := hid hN2
      clear hN2
      obtain ⟨x2, r2⟩ := N2
      simp only at *
      generalize hN3 : numS r2 = N3 at *
      have HN3 := hid hN3
      clear hN3
      obtain ⟨x3, r3⟩ := N3
      simp only at *
      generalize hN4 : numS r3 = N4 at *
      have HN4 := hid hN4
      clear hN4
      obtain ⟨x4, r4⟩ := N4
      simp only at *
      rw [HR.out] at HS
      clear HR
      simp only at HS
      obtain ⟨sa, sc, hsv, hsl, hsm, hsn, hso⟩ := HJ.out.2.2.2.nl.shape
      have hal : acc.length ≤ 99999 := by have := HJ.out.1; omega
      go_wp2_with fail
      refine P1.out.mono ?_
      rintro e w2 ⟨rfl, hr2, hg2⟩
      have HJ2 := hid (HJ.out.2.2.2.read hq hr2 hg2)
      have P2 := hid (pnum_any hr2)
      rw [HN2.out] at P2
      clear hr2 hg2 P1
      go_wp2_with fail
      refine P2.out.mono ?_
      rintro e w3 ⟨rfl, hr3, hg3⟩
      have HJ3 := hid (HJ2.out.read hq hr3 hg3)
      have P3 := hid (pnum_any hr3)
      rw [HN3.out] at P3
      clear hr3 hg3 P2 HJ2
      go_wp2_with fail
      refine P3.out.mono ?_
      rintro e w4 ⟨rfl, hr4, hg4⟩
      have HJ4 := hid (HJ3.out.read hq hr4 hg4)
      have P4 := hid (pnum_any hr4)
      rw [HN4.out] at P4
      clear hr4 hg4 P3 HJ3
      go_wp2_with fail
      refine P4.out.mono ?_
      rintro e w5 ⟨rfl, hr5, hg5⟩
      have HJ5 := hid (HJ4.out.read hq hr5 hg5)
      clear hr5 hg5 P4 HJ4
      have HB6 := hid ((Below.refl w5.heap.size w5).alloc (Nat.le_refl _) (.cells #[.int .i64 x1, .int .i64 x2, .int .i64 x3, .int .i64 x4] 64))
      have HJ6 := hid (HJ5.out.under HB6.out)
      have HX6 := hid (heap_alloc_new w5 (.cells #[.int .i64 x1, .int .i64 x2, .int .i64 x3, .int .i64 x4] 64))
      have hz6 : (w5.alloc (.cells #[.int .i64 x1, .int .i64 x2, .int .i64 x3, .int .i64 x4] 64)).heap.size = w5.heap.size + 1 := by simp
      have HRt := hid (isRight_any ⟨x1, x2, x3, x4⟩ (w5.alloc (.cells #[.int .i64 x1, .int .i64 x2, .int .i64 x3, .int .i64 x4] 64)) i1 i2 i3 i4)
      simp only at HRt
      clear HJ5
      cases b1 : rightNt ⟨x1, x2, x3, x4⟩ with
      | false =>
        rw [b1] at HRt HS
        have HE : Hid (NR = ([], r4)) := by show _ = _; rw [HN.out, HJ.out.2.2.1, HS.out]; rfl
        clear b1 HN
        go_wp2_with fail
        refine HRt.out.mono ?_
        rintro e w7 ⟨rfl, hb7⟩
        have HJ7 := hid (HJ6.out.under hb7)
        clear hb7
        go_wp2_with fail
        go_ret
        refine ⟨_, rfl, ?_⟩
        rw [HE.out]
        exact ⟨⟨HJ7.out.rd, ⟨rfl, .inl ⟨rfl, rfl⟩⟩, HJ7.out.grown⟩, LOk.nil, by simp⟩
      | true =>
        have hok := rightNt_ok.1 b1
        rw [b1] at HRt HS
        have HOK := hid hok
        clear b1 hok
        subst hsv
        go_wp2_with fail
        refine HRt.out.mono ?_
        rintro e w7 ⟨rfl, hb7⟩
        have HJ7 := hid (HJ6.out.under hb7)
        have HX7 := hid ((hb7.block w5.heap.size (by omega)).trans HX6.out)
        clear hb7 HRt HJ6 HX6
        have HFo := hid (follows_any HJ7.out.nl HJ.out.2.1 (by omega) ⟨x1, x2, x3, x4⟩ HOK.out)
        simp only at HFo
        have y0 := cell_blk HX7.out 0 _ rfl
        have y1 := cell_blk HX7.out 1 _ rfl
        have y2 := cell_blk HX7.out 2 _ rfl
        have y3 := cell_blk HX7.out 3 _ rfl
        have hlt7 : w5.heap.size < w7.heap.size := World.block_lt_of_cell? w7 _ y0
        cases b2 : folB acc ⟨x1, x2, x3, x4⟩ with
        | false =>
          rw [b2] at HFo HS
          have HE : Hid (NR = ([], r4)) := by show _ = _; rw [HN.out, HJ.out.2.2.1, HS.out]; rfl
          clear b2 HN
          go_wp2_with fail
          refine HFo.out.mono ?_
          rintro e w8 ⟨rfl, hb8⟩
          have HJ8 := hid (HJ7.out.under hb8)
          clear hb8
          go_wp2_with fail
          go_ret
          refine ⟨_, rfl, ?_⟩
          rw [HE.out]
          exact ⟨⟨HJ8.out.rd, ⟨rfl, .inl ⟨rfl, rfl⟩⟩, HJ8.out.grown⟩, LOk.nil, by simp⟩
        | true =>
          have HLs := hid (HJ.out.2.1.snoc HOK.out b2)
          rw [b2] at HFo HS
          have HE : Hid (notesS n [] s1 = notesS (n - (j + 1)) (acc ++ [⟨x1, x2, x3, x4⟩]) r4) := by show _ = _; rw [HJ.out.2.2.1, HS.out]; rfl
          clear b2
          go_wp2_with fail
          refine HFo.out.mono ?_
          rintro e w8 ⟨rfl, hb8⟩
          have HJ8 := hid (HJ7.out.under hb8)
          have HX8 := hid ((hb8.block w5.heap.size (by omega)).trans HX7.out)
          have hz8 := hb8.size
          clear hb8 HFo HJ7 HX7 y0 y1 y2 y3
          have y0 := cell_blk HX8.out 0 _ rfl
          have y1 := cell_blk HX8.out 1 _ rfl
          have y2 := cell_blk HX8.out 2 _ rfl
          have y3 := cell_blk HX8.out 3 _ rfl
          obtain ⟨j0, hj0, hz0, hz1, hz2⟩ := info64
          have hbA : Below w8.heap.size w8 (w8.alloc (.cells #[.int .i64 x1, .int .i64 x2, .int .i64 x3, .int .i64 x4] 64)) := (Below.refl _ _).alloc (Nat.le_refl _) _
          have HJA := hid (HJ8.out.under hbA)
          have HROW := hid HJA.out.row
          have hnbA := heap_alloc_new w8 (.cells #[.int .i64 x1, .int .i64 x2, .int .i64 x3, .int .i64 x4] 64)
          have HNW : Hid (∀ j u, (ntCells ⟨x1, x2, x3, x4⟩)[j]? = some u → (w8.alloc (.cells #[.int .i64 x1, .int .i64 x2, .int .i64 x3, .int .i64 x4] 64)).cell? ((⟨w8.heap.size, 0, none⟩ : Addr).add j) = some u) := fun j u hu => by
            rw [add_lit0]
            refine cell_blk hnbA j u ?_
            rw [← hu]
            simp [ntCells]
          have HON : Hid (∀ u ∈ ntCells ⟨x1, x2, x3, x4⟩, u.oneCell' = true) := by
            intro u hu
            simp [ntCells] at hu
            rcases hu with rfl | rfl | rfl | rfl <;> rfl
          have HNC : Hid ((ntCells ⟨x1, x2, x3, x4⟩).length = 1 * 4) := rfl
          have HPU : Hid (∀ (v' : Value) (w9 : World), w9.ownsRow w.heap.size 64 4 v' (acc.length + 1) (flatN acc ++ ntCells ⟨x1, x2, x3, x4⟩) → (w8.alloc (.cells #[.int .i64 x1, .int .i64 x2, .int .i64 x3, .int .i64 x4] 64)).grownBy w9 (Value.slice sa acc.length sc).ownBlock → RdAt w w9 rq r4 v' (acc ++ [⟨x1, x2, x3, x4⟩])) := fun v' w9 h1 h2 => HJA.out.push hq h1 h2
          have hgs := HJA.out.grown.size
          clear hbA hnbA
          generalize flatN acc = FL at *
          generalize ntCells ⟨x1, x2, x3, x4⟩ = NC at *
          go_wp2_with (at_builtin; refine wpList_append_own_at _ rfl _ _ 60 rfl w.heap.size 64 j0 _ 4 32 Try.underlying60 hj0 hz0 hz1 hz2 rfl (by decide) _ acc.length FL rfl HROW.out ⟨w8.heap.size, 0, none⟩ 1 1 NC rfl HNC.out HNW.out HON.out (by unfold maxLen; omega) (by omega) (by omega) ?_; intro v' w9 hown9 hg9 _ hat9; have HG := hid (HPU.out v' w9 hown9 hg9); clear hown9 hg9 hat9)
          go_roundg (n - (j + 1))
          case measure => omega
          case rel => exact ⟨j + 1, acc ++ [⟨x1, x2, x3, x4⟩], r4, v', by omega, Nat.le_refl _, by go_num, rfl, by have := HJ.out.1; simp; omega, HLs.out, HE.out, HG.out⟩
    · have hlt' : ¬ (j : Int) < (n : Int) := by omega
      have e0 : n - j = 0 := by omega
      have HE : Hid (NR = (acc, sr)) := by
        show _ = _
        rw [HN.out, HJ.out.2.2.1, e0]; rfl
      have hal : acc.length ≤ most := by have := HJ.out.1; omega
      obtain ⟨sa, sc, hsv, _⟩ := HJ.out.2.2.2.nl.shape
      subst hsv
      go_wp2_with fail
      go_ret
      refine ⟨.slice sa acc.length sc, rfl, ?_⟩
      rw [HE.out]
      exact ⟨HJ.out.2.2.2, HJ.out.2.1, by simp only; omega⟩
end Go.Proofs.Ytkdbclnnmpnfgaa

