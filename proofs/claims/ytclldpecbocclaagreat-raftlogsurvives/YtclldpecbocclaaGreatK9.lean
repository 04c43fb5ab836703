/- What is written: a term and a vote, a snapshot, entries. -/
import Derived.Test.YtclldpecbocclaaGreatK8
import Derived.Shelf.Strings.Builder1
namespace Go.Proofs.YtclldpecbocclaaGreat
open Go.RowKit Go.Maps
set_option maxRecDepth 100000
set_option linter.unusedSimpArgs false
set_option linter.unusedVariables false

def bRen : Go.Shelf.Ren := ⟨fun | 166 => 61 | 240 => 81 | 276 => 94 | 169 => 63 | n => n, fun | 37 => 74 | 70 => 103 | 72 => 105 | 75 => 107 | 80 => 111 | 164 => 134 | 127 => 123 | n => n, fun | n => n⟩
theorem wsLaid : Go.Proofs.Lays.n166 Tryz.prog bRen := {
  mixed := by kernel_rfl
  f166 := Tryz.func61.trans (congrArg some (by kernel_rfl))
  f240 := Tryz.func81.trans (congrArg some (by kernel_rfl))
  f276 := Tryz.func94.trans (congrArg some (by kernel_rfl))
  t0 := by kernel_rfl
  a0 := fun w => by kernel_rfl
  z0 := fun w => by kernel_rfl
  v0 := fun w => by kernel_rfl
  t3 := by kernel_rfl
  a3 := fun w => by kernel_rfl
  z3 := fun w => by kernel_rfl
  v3 := fun w => by kernel_rfl
  t4 := by kernel_rfl
  a4 := fun w => by kernel_rfl
  z4 := fun w => by kernel_rfl
  v4 := fun w => by kernel_rfl
  t9 := by kernel_rfl
  a9 := fun w => by kernel_rfl
  z9 := fun w => by kernel_rfl
  v9 := fun w => by kernel_rfl
  t20 := by kernel_rfl
  a20 := fun w => by kernel_rfl
  z20 := fun w => by kernel_rfl
  v20 := fun w => by kernel_rfl
  t37 := by kernel_rfl
  a37 := fun w => by kernel_rfl
  z37 := fun w => by kernel_rfl
  v37 := fun w => by kernel_rfl
  t70 := by kernel_rfl
  a70 := fun w => by kernel_rfl
  z70 := fun w => by kernel_rfl
  v70 := fun w => by kernel_rfl
  t72 := by kernel_rfl
  a72 := fun w => by kernel_rfl
  z72 := fun w => by kernel_rfl
  v72 := fun w => by kernel_rfl
  t75 := by kernel_rfl
  a75 := fun w => by kernel_rfl
  z75 := fun w => by kernel_rfl
  v75 := fun w => by kernel_rfl
  t164 := by kernel_rfl
  a164 := fun w => by kernel_rfl
  z164 := fun w => by kernel_rfl
  v164 := fun w => by kernel_rfl }
theorem stLaid : Go.Proofs.Lays.n169 Tryz.prog bRen := {
  mixed := by kernel_rfl
  f169 := Tryz.func63.trans (congrArg some (by kernel_rfl))
  t0 := by kernel_rfl
  a0 := fun w => by kernel_rfl
  z0 := fun w => by kernel_rfl
  v0 := fun w => by kernel_rfl
  t3 := by kernel_rfl
  a3 := fun w => by kernel_rfl
  z3 := fun w => by kernel_rfl
  v3 := fun w => by kernel_rfl
  t9 := by kernel_rfl
  a9 := fun w => by kernel_rfl
  z9 := fun w => by kernel_rfl
  v9 := fun w => by kernel_rfl
  t37 := by kernel_rfl
  a37 := fun w => by kernel_rfl
  z37 := fun w => by kernel_rfl
  v37 := fun w => by kernel_rfl
  t70 := by kernel_rfl
  a70 := fun w => by kernel_rfl
  z70 := fun w => by kernel_rfl
  v70 := fun w => by kernel_rfl
  t72 := by kernel_rfl
  a72 := fun w => by kernel_rfl
  z72 := fun w => by kernel_rfl
  v72 := fun w => by kernel_rfl
  t127 := by kernel_rfl
  a127 := fun w => by kernel_rfl
  z127 := fun w => by kernel_rfl
  v127 := fun w => by kernel_rfl }
theorem bExtra : Builder.Extra Tryz.prog bRen := {
  sizeBuilder := by kernel_rfl
  liesBuilder := by kernel_rfl
  t5 := Tryz.underlying5
  a5 := fun w => by kernel_rfl
  z5 := fun w => by kernel_rfl
  v5 := fun w => by kernel_rfl
  infoByte := by kernel_rfl
  cellsByte := by kernel_rfl
  sizeByte := by kernel_rfl
  neB5 := by decide }
theorem ws_any (B b : Nat) (bs : List Value) (s : ByteArray) (w : World) (h : Lib.IsBuilder 105 5 B b bs w) (hlen : bs.length + s.size ≤ 140737488355328) (hBw : B ≤ w.heap.size) :
    Calls Tryz.prog 61 #[.pointer (some ⟨b, 0, none⟩), .string s] w fun e w' => e = .returned (.tuple #[.int .i64 s.size, .nilIface]) ∧ (Lib.BuilderAt 105 5 B b (.pointer (some ⟨b, 0, none⟩)) (bs ++ Lib.strCells s) w' ∧ Below B w w') :=
  Any.Builder_WriteString wsLaid bExtra B b bs s w h hlen hBw
theorem str_any (B b : Nat) (l : List UInt8) (w : World) (h : Lib.IsBuilder 105 5 B b (Lib.byteCells l) w) (hBw : B ≤ w.heap.size) :
    Calls Tryz.prog 63 #[.pointer (some ⟨b, 0, none⟩)] w fun e w' => e = .returned (.string ⟨l.toArray⟩) ∧ Below B w w' :=
  Any.Builder_String_any stLaid bExtra B b l w h hBw
set_option maxHeartbeats 800000 in
theorem termText_any (t v : Int) (w : World) (ht : I64 t) (hv : I64 v) : Calls Tryz.prog 30 #[.int .i64 t, .int .i64 v] w fun e w' => e = .returned (.string (strOf (termB t v))) ∧ Below w.heap.size w w' := by
  have H46 := hid (two48 (Row.nil w w.heap.size) (Nat.le_refl _) t v ht hv (by simp))
  have HL : Hid (termB t v = sealL (intsL [t, v])) := rfl
  have hln := intsL_length [t, v]
  go_enter Tryz.func30, Tryz.ntmps30
  go_wp2_with (first | (go_at_call 52; refine H46.out.mono ?_; rintro e w1 ⟨v1, rfl, hr1, hb1, _⟩; simp only [List.nil_append] at hr1; have hcv := hr1.conv; obtain ⟨oa2, cap2, rfl⟩ := hr1.shape; have HS := hid (pseal_any (intsL [t, v]) w1 (by simp at hln; omega)); have HB := hid hb1; clear hr1 hb1) | (go_at_call 51; refine HS.out.mono ?_; rintro e w2 ⟨rfl, hb2⟩))
  go_ret
  exact ⟨by rw [HL.out]; rfl, HB.out.trans (hb2.mono HB.out.size)⟩
theorem ints2_any {n m : Int} {w : World} {b : Nat} (hbk : w.heap[b]? = some (.cells #[.int .i64 n, .int .i64 m] 3)) (hn : I64 n) (hm : I64 m) :
    Calls Tryz.prog 52 #[.slice none 0 0, .slice (some ⟨b, 0, none⟩) 2 2] w fun e w' => ∃ v', e = .returned v' ∧ Row w' w.heap.size v' (intsL [n, m]) ∧ Below w.heap.size w w' := by
  refine (appInts_any (Row.nil w w.heap.size) (Nat.le_refl _) (some ⟨b, 0, none⟩) 2 [n, m] (.inr ⟨b, 0, rfl, (Array.getElem?_eq_some_iff.1 hbk).1, (by intro e; cases e), ?_⟩) (fun k hk => ?_) (by simp)).mono ?_
  · intro i hi
    have h0 : i = 0 ∨ i = 1 := by simp at hi; omega
    rcases h0 with rfl | rfl
    · exact cell_at hbk rfl
    · exact cell_at hbk rfl
  · simp at hk; rcases hk with rfl | rfl <;> assumption
  · rintro e w1 ⟨v', rfl, h1, h2, _⟩
    exact ⟨v', rfl, by simpa using h1, h2⟩
set_option maxHeartbeats 1600000 in
theorem snapText_any (x : Et) (w : World) (ht : I64 x.t) (hi : I64 x.i) (hd : x.d.length ≤ 60000) : Calls Tryz.prog 32 #[.agg #[.int .i64 x.t, .int .i64 x.i, .string (strOf x.d)]] w fun e w' => e = .returned (.string (strOf (snapB x))) ∧ Below w.heap.size w w' := by
  have hb0 : Below w.heap.size w (w.alloc (.cells #[.int .i64 x.t, .int .i64 x.i, .string (strOf x.d)] 37)) := (Below.refl _ _).alloc (Nat.le_refl _) _
  have c0 : (w.alloc (.cells #[.int .i64 x.t, .int .i64 x.i, .string (strOf x.d)] 37)).cell? ⟨w.heap.size, 0, none⟩ = some (.int .i64 x.t) := cell_at (heap_alloc_new w _) rfl
  have c1 : (w.alloc (.cells #[.int .i64 x.t, .int .i64 x.i, .string (strOf x.d)] 37)).cell? ⟨w.heap.size, 1, none⟩ = some (.int .i64 x.i) := cell_at (heap_alloc_new w _) rfl
  have c2 : (w.alloc (.cells #[.int .i64 x.t, .int .i64 x.i, .string (strOf x.d)] 37)).cell? ⟨w.heap.size, 2, none⟩ = some (.string (strOf x.d)) := cell_at (heap_alloc_new w _) rfl
  have HK : Hid (∀ W, Below (w.alloc (.cells #[.int .i64 x.t, .int .i64 x.i, .string (strOf x.d)] 37)).heap.size (w.alloc (.cells #[.int .i64 x.t, .int .i64 x.i, .string (strOf x.d)] 37)) W → W.cell? ⟨w.heap.size, 0, none⟩ = some (.int .i64 x.t) ∧ W.cell? ⟨w.heap.size, 1, none⟩ = some (.int .i64 x.i) ∧ W.cell? ⟨w.heap.size, 2, none⟩ = some (.string (strOf x.d))) := fun W hW => by
    have hh := (hW.block w.heap.size (by simp)).trans (heap_alloc_new w _)
    exact ⟨cell_at hh rfl, cell_at hh rfl, cell_at hh rfl⟩
  have H46 : Hid (∀ W b, Below (w.alloc (.cells #[.int .i64 x.t, .int .i64 x.i, .string (strOf x.d)] 37)).heap.size (w.alloc (.cells #[.int .i64 x.t, .int .i64 x.i, .string (strOf x.d)] 37)) W → W.heap[b]? = some (.cells #[.int .i64 x.i, .int .i64 x.t] 3) → Calls Tryz.prog 52 #[.slice none 0 0, .slice (some ⟨b, 0, none⟩) 2 2] W fun e w' => ∃ v', e = .returned v' ∧ Row w' (w.alloc (.cells #[.int .i64 x.t, .int .i64 x.i, .string (strOf x.d)] 37)).heap.size v' (intsL [x.i, x.t]) ∧ Below (w.alloc (.cells #[.int .i64 x.t, .int .i64 x.i, .string (strOf x.d)] 37)).heap.size (w.alloc (.cells #[.int .i64 x.t, .int .i64 x.i, .string (strOf x.d)] 37)) w') := fun W b hW hbk =>
    (ints2_any hbk hi ht).mono fun e w' ⟨v', e1, e2, e3⟩ => ⟨v', e1, e2.base hW.size, hW.trans (e3.mono hW.size)⟩
  have hln := intsL_length [x.i, x.t]
  have hln2 := textL_len2 x.d
  have H45 : Hid (∀ W v', Below (w.alloc (.cells #[.int .i64 x.t, .int .i64 x.i, .string (strOf x.d)] 37)).heap.size (w.alloc (.cells #[.int .i64 x.t, .int .i64 x.i, .string (strOf x.d)] 37)) W → Row W (w.alloc (.cells #[.int .i64 x.t, .int .i64 x.i, .string (strOf x.d)] 37)).heap.size v' (intsL [x.i, x.t]) → Calls Tryz.prog 53 #[v', .string (strOf x.d)] W fun e w' => ∃ v2, e = .returned v2 ∧ Row w' (w.alloc (.cells #[.int .i64 x.t, .int .i64 x.i, .string (strOf x.d)] 37)).heap.size v2 (intsL [x.i, x.t] ++ textL x.d) ∧ Below (w.alloc (.cells #[.int .i64 x.t, .int .i64 x.i, .string (strOf x.d)] 37)).heap.size (w.alloc (.cells #[.int .i64 x.t, .int .i64 x.i, .string (strOf x.d)] 37)) w') := fun W v' hW hr =>
    (pText_any hr hW.size x.d (by simp only [List.length_cons, List.length_nil] at *; omega)).mono fun e w' ⟨v2, e1, e2, e3, _⟩ => ⟨v2, e1, e2, hW.trans e3⟩
  have H44 : Hid (∀ W, Below (w.alloc (.cells #[.int .i64 x.t, .int .i64 x.i, .string (strOf x.d)] 37)).heap.size (w.alloc (.cells #[.int .i64 x.t, .int .i64 x.i, .string (strOf x.d)] 37)) W → Calls Tryz.prog 51 #[.string (strOf (intsL [x.i, x.t] ++ textL x.d))] W fun e w' => e = .returned (.string (strOf (snapB x))) ∧ Below (w.alloc (.cells #[.int .i64 x.t, .int .i64 x.i, .string (strOf x.d)] 37)).heap.size (w.alloc (.cells #[.int .i64 x.t, .int .i64 x.i, .string (strOf x.d)] 37)) w') := fun W hW => (pseal_any _ W (by simp only [List.length_append, List.length_cons, List.length_nil] at *; omega)).mono fun e w' ⟨e1, e2⟩ => ⟨e1, hW.trans (e2.mono hW.size)⟩
  have HB0 := hid hb0
  clear hb0 hln hln2
  obtain ⟨t, i, d⟩ := x
  simp only at *
  generalize snapB ⟨t, i, d⟩ = SB at *
  generalize intsL [i, t] ++ textL d = L2 at *
  generalize intsL [i, t] = L1 at *
  go_enter Tryz.func32, Tryz.ntmps32
  go_wp2_with fail
  generalize w.alloc (.cells #[.int .i64 t, .int .i64 i, .string (strOf d)] 37) = W1 at *
  have d0 : ∀ O, (W1.alloc O).cell? ⟨w.heap.size, 2, none⟩ = some (.string (strOf d)) := fun O => Lib.cell?_alloc_some O c2
  have d1 : ∀ O, (W1.drew.alloc O).cell? ⟨w.heap.size, 2, none⟩ = some (.string (strOf d)) := fun O => Lib.cell?_alloc_some O c2
  go_region_with
    (first
    | (go_at_call 52; refine (H46.out _ _ (by repeat (first | exact Below.refl _ _ | apply Below.drew | refine Below.alloc ?_ (by simp) _)) (by first | exact heap_alloc_new _ _)).mono ?_; rintro e w2 ⟨v2, rfl, hr2, hb2⟩; obtain ⟨oa2, cap2, rfl⟩ := hr2.shape; have HR2 := hid hr2; obtain ⟨p20, p21, p22⟩ := HK.out _ hb2; clear hr2)
    | (go_at_call 53; refine (H45.out _ _ (by first | exact hb2 | exact hb2.drew | exact hb2.drew.drew) (by first | exact HR2.out | exact HR2.out.under (B' := 0) ((Below.refl _ _).drew))).mono ?_; rintro e w3 ⟨v3, rfl, hr3, hb3⟩; have hcv := hr3.conv; have hcvd := (hr3.under (B' := 0) ((Below.refl _ _).drew)).conv; obtain ⟨oa3, cap3, rfl⟩ := hr3.shape; clear hr3)
    | (go_at_call 51; refine (H44.out _ (by first | exact hb3 | exact hb3.drew | exact hb3.drew.drew)).mono ?_; rintro e w4 ⟨rfl, hb4⟩)
    | fail)
  all_goals
    go_wp2_with fail
    go_ret
    exact ⟨rfl, HB0.out.trans (hb4.mono HB0.out.size)⟩
end Go.Proofs.YtclldpecbocclaaGreat

