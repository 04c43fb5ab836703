/- logText: what the file has of entries. -/
import Derived.Test.YtclldpecbocclaaGreatK9
import Derived.Deep.CutRange
import Derived.Deep.CutBlock
namespace Go.Proofs.YtclldpecbocclaaGreat
open Go.RowKit Go.Maps
set_option maxRecDepth 100000
set_option linter.unusedSimpArgs false
set_option linter.unusedVariables false

theorem strCells_eq2 (t : List UInt8) : Lib.strCells (strOf t) = Lib.byteCells t := strCells_eq t
theorem byteCells_append (l m : List UInt8) : Lib.byteCells (l ++ m) = Lib.byteCells l ++ Lib.byteCells m := by simp [Lib.byteCells]
theorem builder_under {B b : Nat} {p : Value} {bs : List Value} {w w1 : World} (h : Lib.BuilderAt 105 5 B b p bs w) (hb : Below w.heap.size w w1) : Lib.BuilderAt 105 5 B b p bs w1 := by
  obtain ⟨h1, v, h2, h3, h4⟩ := h
  refine ⟨h1, v, (hb.block b (Array.getElem?_eq_some_iff.1 h2).1).trans h2, ?_, h4⟩
  obtain ⟨g1, g2⟩ := id h3
  rcases g2 with g2 | ⟨g, cap, cur, e, hB, hg, r⟩
  · exact ⟨g1, .inl g2⟩
  · exact ⟨g1, .inr ⟨g, cap, cur, e, hB, (hb.block g (Array.getElem?_eq_some_iff.1 hg).1).trans hg, r⟩⟩
theorem isB_under {B b : Nat} {bs : List Value} {w w1 : World} (h : Lib.IsBuilder 105 5 B b bs w) (hb : Below w.heap.size w w1) : Lib.IsBuilder 105 5 B b bs w1 := by
  rcases h with h | h
  · exact .inl (builder_under h hb)
  · exact .inr (builder_under h hb)
set_option maxHeartbeats 3200000 in
theorem logText_any {w : World} {oa : Option Addr} {cap : Nat} {l : List Et} (h : EAt w oa l) (hl : l.length ≤ 3000000) (hr : ∀ x ∈ l, I64 x.t ∧ I64 x.i ∧ x.d.length ≤ 2048) :
    Calls Tryz.prog 44 #[.slice oa l.length cap] w fun e w' => e = .returned (.string (strOf (logB l))) ∧ Below w.heap.size w w' := by
  have HE := hid h
  have HR := hid hr
  have H0 : Hid (Lib.IsBuilder 105 5 w.heap.size w.heap.size (Lib.byteCells (logB (l.take 0))) (w.alloc (.cells #[.pointer none, .slice none 0 0] 105)) ∧ Below w.heap.size w (w.alloc (.cells #[.pointer none, .slice none 0 0] 105)) ∧ w.heap.size < (w.alloc (.cells #[.pointer none, .slice none 0 0] 105)).heap.size) :=
    ⟨.inl ⟨Nat.le_refl _, .slice none 0 0, heap_alloc_new w _, ⟨rfl, .inl ⟨rfl, rfl⟩⟩, by intro e; cases e⟩, (Below.refl _ _).alloc (Nat.le_refl _) _, by simp⟩
  clear h hr
  go_enter Tryz.func44, Tryz.ntmps44
  go_wp2_with fail
  go_loopg [10] l.length (fun kx s10 wr => ∃ k : Nat, k ≤ l.length ∧ l.length - k ≤ kx ∧ s10 = .int .i64 (k : Int) ∧ Hid (Lib.IsBuilder 105 5 w.heap.size w.heap.size (Lib.byteCells (logB (l.take k))) wr ∧ Below w.heap.size w wr ∧ w.heap.size < wr.heap.size))
  case atStart => exact ⟨0, by omega, by omega, rfl, H0⟩
  case round =>
    obtain ⟨k, hk, hkx, rfl, HI⟩ := hrel
    clear H0
    by_cases hlt : k < l.length
    · have hlt' : (k : Int) < (l.length : Int) := by omega
      obtain ⟨g, o, rfl, hg, _⟩ := HE.out (by omega)
      have hx : l[k]? = some l[k] := List.getElem?_eq_getElem hlt
      obtain ⟨r0, r1, r2⟩ := (HE.out.under HI.out.2.1).at_ k l[k] hx
      have hrx := HR.out l[k] (List.getElem_mem hlt)
      have HLB : Hid (logB (l.take (k + 1)) = logB (l.take k) ++ entB l[k]) := logB_step l k hlt
      have hlbl : (logB (l.take k)).length ≤ l.length * 2086 := by
        have h1 := logB_length_le (l.take k) 2048 (fun y hy => (HR.out y (List.mem_of_mem_take hy)).2.2)
        rw [List.length_take] at h1
        have h2 : min k l.length * (38 + 2048) ≤ l.length * 2086 := Nat.mul_le_mul_right _ (by omega)
        omega
      clear hx
      generalize l[k] = x at *
      obtain ⟨t, i, d⟩ := x
      obtain ⟨ht, hi, hd⟩ := hrx
      simp only at *
      have hb0 : Below wr.heap.size wr (wr.alloc (.cells #[.int .i64 t, .int .i64 i, .string (strOf d)] 37)) := (Below.refl _ _).alloc (Nat.le_refl _) _
      have HK : Hid (∀ W, Below (wr.alloc (.cells #[.int .i64 t, .int .i64 i, .string (strOf d)] 37)).heap.size (wr.alloc (.cells #[.int .i64 t, .int .i64 i, .string (strOf d)] 37)) W → W.cell? ⟨wr.heap.size, 0, none⟩ = some (.int .i64 t) ∧ W.cell? ⟨wr.heap.size, 1, none⟩ = some (.int .i64 i) ∧ W.cell? ⟨wr.heap.size, 2, none⟩ = some (.string (strOf d))) := fun W hW => by
        have hh := (hW.block wr.heap.size (by simp)).trans (heap_alloc_new wr _)
        exact ⟨cell_at hh rfl, cell_at hh rfl, cell_at hh rfl⟩
      obtain ⟨c0, c1, c2⟩ := HK.out _ (Below.refl _ _)
      have HB0 := hid hb0
      have hsW : wr.heap.size < (wr.alloc (.cells #[.int .i64 t, .int .i64 i, .string (strOf d)] 37)).heap.size := by simp
      clear hb0
      go_upto_region 5 with fail
      generalize wr.alloc (.cells #[.int .i64 t, .int .i64 i, .string (strOf d)] 37) = W1 at *
      have hln := intsL_length [t, i]
      have hln2 := textL_len2 d
      have hbl := bodyE_length ⟨t, i, d⟩
      simp only at hbl
      have HBD : Hid (bodyE ⟨t, i, d⟩ = intsL [t, i] ++ textL d) := rfl
      have H46 : Hid (∀ W b, Below W1.heap.size W1 W → W.heap[b]? = some (.cells #[.int .i64 t, .int .i64 i] 3) → Calls Tryz.prog 52 #[.slice none 0 0, .slice (some ⟨b, 0, none⟩) 2 2] W fun e w' => ∃ v', e = .returned v' ∧ Row w' W1.heap.size v' (intsL [t, i]) ∧ Below W1.heap.size W1 w') := fun W b hW hbk =>
        (ints2_any hbk ht hi).mono fun e w' ⟨v', e1, e2, e3⟩ => ⟨v', e1, e2.base hW.size, hW.trans (e3.mono hW.size)⟩
      have H45 : Hid (∀ W v', Below W1.heap.size W1 W → Row W W1.heap.size v' (intsL [t, i]) → Calls Tryz.prog 53 #[v', .string (strOf d)] W fun e w' => ∃ v2, e = .returned v2 ∧ Row w' W1.heap.size v2 (bodyE ⟨t, i, d⟩) ∧ Below W1.heap.size W1 w') := fun W v' hW hr =>
        (pText_any hr hW.size d (by simp only [List.length_cons, List.length_nil] at *; omega)).mono fun e w' ⟨v2, e1, e2, e3, _⟩ => ⟨v2, e1, e2, hW.trans e3⟩
      go_cut [6, 10] from 10 to 31 (fun s6 s10 W => s6 = .string (strOf (bodyE ⟨t, i, d⟩)) ∧ s10 = .int .i64 (k : Int) ∧ Hid (Below W1.heap.size W1 W))
      case first =>
        generalize bodyE ⟨t, i, d⟩ = BD at *
        generalize intsL [t, i] = L1 at *
        have d0 : ∀ O, (W1.alloc O).cell? ⟨wr.heap.size, 2, none⟩ = some (.string (strOf d)) := fun O => Lib.cell?_alloc_some O c2
        have d1 : ∀ O, (W1.drew.alloc O).cell? ⟨wr.heap.size, 2, none⟩ = some (.string (strOf d)) := fun O => Lib.cell?_alloc_some O c2
        go_region_with
          (first
          | (go_at_call 52; refine (H46.out _ _ (by repeat (first | exact Below.refl _ _ | apply Below.drew | refine Below.alloc ?_ (by simp) _)) (by first | exact heap_alloc_new _ _)).mono ?_; rintro e w2 ⟨v2, rfl, hr2, hb2⟩; obtain ⟨oa2, cap2, rfl⟩ := hr2.shape; have HR2 := hid hr2; obtain ⟨p20, p21, p22⟩ := HK.out _ hb2; clear hr2)
          | (go_at_call 53; refine (H45.out _ _ (by first | exact hb2 | exact hb2.drew | exact hb2.drew.drew) (by first | exact HR2.out | exact HR2.out.under (B' := 0) ((Below.refl _ _).drew))).mono ?_; rintro e w3 ⟨v3, rfl, hr3, hb3⟩; have hcv := hr3.conv; have hcvd := (hr3.under (B' := 0) ((Below.refl _ _).drew)).conv; obtain ⟨oa3, cap3, rfl⟩ := hr3.shape; clear hr3)
          | fail)
        all_goals
          go_wp2_with fail
          go_meet
          case rel => exact ⟨rfl, rfl, by first | exact hb3 | exact hb3.drew⟩
      case rest =>
        obtain ⟨rfl, rfl, HW⟩ := hcut
        generalize wc = W at *
        have hbW : Below wr.heap.size wr W := HB0.out.trans (HW.out.mono HB0.out.size)
        have HIB := hid (isB_under HI.out.1 hbW)
        have HBW := hid (HI.out.2.1.trans (hbW.mono HI.out.2.1.size))
        have hsW2 : w.heap.size < W.heap.size := by have := HI.out.2.2; have := hbW.size; omega
        have HEB : Hid (entB ⟨t, i, d⟩ = fourL (bodyE ⟨t, i, d⟩).length ++ sealL (bodyE ⟨t, i, d⟩)) := rfl
        have hsl := sealL_length (bodyE ⟨t, i, d⟩)
        have hszb := strOf_size (bodyE ⟨t, i, d⟩)
        have h4 : (fourL (bodyE ⟨t, i, d⟩).length).length = 4 := rfl
        have hbc := Lib.byteCells_length (logB (l.take k))
        clear hbW HBD H46 H45 HK c0 c1 c2
        generalize bodyE ⟨t, i, d⟩ = BD at *
        have H57 := hid (pfour_any BD.length W (by omega))
        generalize logB (l.take k) = LK at *
        go_wp2_with (go_at_call 62; refine H57.out.mono ?_; rintro e w2 ⟨rfl, hb2⟩)
        have HIB2 := hid (isB_under HIB.out hb2)
        refine (ws_any w.heap.size w.heap.size _ _ _ HIB2.out (by rw [strOf_size, h4, hbc]; omega) (by have := hb2.size; omega)).mono ?_
        rintro e w3 ⟨rfl, hB3, hb3⟩
        have H44 := hid (pseal_any BD w3 (by omega))
        go_wp2_with (go_at_call 51; refine H44.out.mono ?_; rintro e w4 ⟨rfl, hb4⟩)
        have HIB4 := hid (builder_under hB3 hb4)
        have hs3 := hb3.size
        have hs2 := hb2.size
        have hs4 := hb4.size
        refine (ws_any w.heap.size w.heap.size _ _ _ (.inr HIB4.out) (by rw [List.length_append, strCells_eq2, Lib.byteCells_length, Lib.byteCells_length, strOf_size, h4, hsl]; omega) (by omega)).mono ?_
        rintro e w5 ⟨rfl, hB5, hb5⟩
        have hs5 := hb5.size
        have HF : Hid (Lib.IsBuilder 105 5 w.heap.size w.heap.size (Lib.byteCells (logB (l.take (k + 1)))) w5 ∧ Below w.heap.size w w5 ∧ w.heap.size < w5.heap.size) := by
          refine ⟨.inr ?_, ((HBW.out.trans (hb2.mono (by omega))).trans hb3).trans ((hb4.mono (by omega)).trans hb5), by omega⟩
          rw [HLB.out, HEB.out, byteCells_append, byteCells_append, ← List.append_assoc, ← strCells_eq2, ← strCells_eq2]
          exact hB5
        clear hB3 hB5 hb2 hb3 hb4 hb5
        have hwk : IntKind.i64.wrap ((k : Int) + 1) = (k : Int) + 1 := IntWalk.i64_in _ ⟨by omega, by omega⟩
        go_wp2_with fail
        go_roundg (l.length - (k + 1))
        case measure => omega
        case rel => exact ⟨k + 1, by omega, Nat.le_refl _, by go_num, HF.out⟩
    · have hlt' : ¬ (k : Int) < (l.length : Int) := by omega
      have e : k = l.length := by omega
      subst e
      rw [List.take_length] at HI
      have HS := hid (str_any w.heap.size w.heap.size (logB l) wr HI.out.1 HI.out.2.1.size)
      go_wp2_with (go_at_call 63; refine HS.out.mono ?_; rintro e w2 ⟨rfl, hb2⟩)
      go_ret
      exact ⟨rfl, HI.out.2.1.trans hb2⟩
end Go.Proofs.YtclldpecbocclaaGreat

