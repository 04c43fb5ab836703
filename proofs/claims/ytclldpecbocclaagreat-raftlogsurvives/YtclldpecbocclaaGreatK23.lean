/- Snap. -/
import Derived.Test.YtclldpecbocclaaGreatK22
import Derived.Test.YtclldpecbocclaaGreatK20
namespace Go.Proofs.YtclldpecbocclaaGreat
open Go.RowKit Go.Maps
set_option maxRecDepth 100000
set_option linter.unusedSimpArgs false
set_option linter.unusedVariables false

theorem begin_short {s : LSt} (x : Et) : (logB (beginE s x)).length ≤ (logB s.list).length ∧ ∀ y ∈ beginE s x, y ∈ s.list := by
  have h : beginE s x = [] ∨ ∃ k, beginE s x = s.list.drop k := by
    unfold beginE
    cases atE s x.i with
    | none => exact .inl rfl
    | some y =>
      simp only
      by_cases ht : y.t = x.t
      · rw [if_pos ht]; exact .inr ⟨_, rfl⟩
      · rw [if_neg ht]; exact .inl rfl
  rcases h with h | ⟨k, h⟩
  · rw [h]; exact ⟨by simp [logB], by simp⟩
  · rw [h]
    refine ⟨?_, fun y hy => List.mem_of_mem_drop hy⟩
    have := logB_split s.list k
    rw [this, List.length_append]; omega
theorem isId_two (n : Int) (w : World) : Calls Tryz.prog 31 #[.int .i64 n] w fun e w' => e = .returned (.bool (idB n)) ∧ w = w' := (isId_any n w).mono fun e w' ⟨e1, e2⟩ => ⟨e1, e2.symm⟩
/-- A log on the way: its files are F. -/
def Mid (B : Nat → Prop) (w w' : World) (q a size : Nat) (s : LSt) (F : List AF) : Prop :=
  ∃ U' S' v', LogM w' U' q a v' s ∧ DiskA w' S' a size F ∧ (∀ k, S' k → ¬ U' k) ∧ (∀ k, U' k ∨ S' k → B k ∨ w.heap.size ≤ k) ∧ (∀ k, B k → U' k ∨ S' k) ∧ Keeps B w w'
theorem Mid.of {w w1 w2 : World} {U S : Nat → Prop} {B : Nat → Prop} {q a size s v} {s' : LSt} {F : List AF} (hM : LogM w U q a v s) (hUS : ∀ k, S k → ¬ U k) (hB : ∀ k, B k ↔ U k ∨ S k)
    (h1 : AfterA S w w1 a size F) (h2 : LogM w1 U q a v s → LAfter U w1 w2 q a s') : Mid B w w2 q a size s' F := by
  obtain ⟨S', g1, g2, g3, g4⟩ := h1
  have hM1 := hM.beside g4 (fun k hU hS => hUS k hS hU)
  obtain ⟨U', v', k1, k2, k3, k4⟩ := h2 hM1
  have hs4 := g4.size
  have hks := k4.size
  have hSU : ∀ k, S' k → ¬ U k := fun k hS hU => by
    rcases g2 k hS with h | h
    · exact hUS k h hU
    · have := hM.below k hU; omega
  have hSU' : ∀ k, S' k → ¬ U' k := fun k hS hU => by
    rcases k2 k hU with h | h
    · exact hSU k hS h
    · have := g1.below k hS; omega
  refine ⟨U', S', v', k1, g1.beside k4 (fun k hS hU => hSU k hS hU), hSU', fun k hk => ?_, fun k hk => ?_, ?_⟩
  · rcases hk with hk | hk
    · rcases k2 k hk with h | h
      · exact .inl ((hB k).2 (.inl h))
      · exact .inr (by omega)
    · rcases g2 k hk with h | h
      · exact .inl ((hB k).2 (.inr h))
      · exact .inr h
  · rcases (hB k).1 hk with h | h
    · exact .inl (k3 k h)
    · exact .inr (g3 k h)
  · have e1 : Keeps B w w1 := ⟨g4.os, g4.tape, g4.output, g4.size, fun k hk hn => g4.block k hk (fun hS => hn ((hB k).2 (.inr hS)))⟩
    have e2 : Keeps B w1 w2 := ⟨k4.os, k4.tape, k4.output, k4.size, fun k hk hn => k4.block k hk (fun hU => hn ((hB k).2 (.inl hU)))⟩
    exact e1.trans e2 (fun x hx => .inl hx)
theorem Mid.done {w w1 w2 : World} {B : Nat → Prop} {q a size} {s : LSt} {U' S' : Nat → Prop} {v' : Value} (hM : LogM w1 U' q a v' s) (hSU : ∀ k, S' k → ¬ U' k) (h4 : ∀ k, U' k ∨ S' k → B k ∨ w.heap.size ≤ k) (h5 : ∀ k, B k → U' k ∨ S' k) (h6 : Keeps B w w1) (hA : AfterA S' w1 w2 a size s.fs) : LDA B w w2 q a size s := by
  obtain ⟨S'', g1, g2, g3, g4⟩ := hA
  have hs := h6.size
  have hgs := g4.size
  refine ⟨fun k => U' k ∨ S'' k, ⟨U', S'', v', hM.beside g4 (fun k hU hS => hSU k hS hU), g1, fun k hS hU => ?_, fun k => Iff.rfl⟩, fun k hk => ?_, fun k hk => ?_, ?_⟩
  · rcases g2 k hS with h | h
    · exact hSU k h hU
    · have := hM.below k hU; omega
  · rcases hk with hk | hk
    · exact h4 k (.inl hk)
    · rcases g2 k hk with h | h
      · exact h4 k (.inr h)
      · exact .inr (by omega)
  · rcases h5 k hk with h | h
    · exact .inl h
    · exact .inr (g3 k h)
  · exact h6.trans g4 (fun x hx => h4 x (.inr hx))
set_option maxHeartbeats 6400000 in
theorem snap_any {w : World} {B q a size s} (h : LD w B q a size s) (hk : LOk s) (index term : Int) (data : List UInt8) (hdl : data.length ≤ 9000000000000000000) :
    Calls Tryz.prog 15 #[.pointer (some ⟨q, 0, none⟩), .int .i64 index, .int .i64 term, .string (strOf data)] w fun e w' => e = .returned (.int .i64 ((snapE size s index term data).1 : Int)) ∧ LDA B w w' q a size (snapE size s index term data).2 := by
  have hlb := h.lb hk
  have HSame : Hid (∀ w', Below w.heap.size w w' → LDA B w w' q a size s) := fun w' hb => LDA.same h hb
  obtain ⟨U, S, v, hM, hD, hUS, hB⟩ := h
  have c2 := hM.c.c2
  have c3 := hM.c.c3
  have c7 := hM.c.c7
  have hds := strOf_size data
  by_cases h1 : idB index = false ∨ idB term = false
  · have HT : Hid (snapE size s index term data = (1, s)) := by show _ = _; unfold snapE; rw [if_pos h1]
    clear hM hD hUS hB hk
    cases b1 : idB index with
    | false =>
      go_enter Tryz.func15, Tryz.ntmps15
      go_wp2_with (go_at_call 31; refine (isId_any _ _).mono ?_; rintro e w2 ⟨rfl, rfl⟩)
      go_ret
      rw [HT.out]
      exact ⟨rfl, HSame.out _ (Below.refl _ _)⟩
    | true =>
      have b2 : idB term = false := by rcases h1 with h | h; rw [b1] at h; cases h; exact h
      go_enter Tryz.func15, Tryz.ntmps15
      go_wp2_with (go_at_call 31; refine (isId_any _ _).mono ?_; rintro e w2 ⟨rfl, rfl⟩)
      go_ret
      rw [HT.out]
      exact ⟨rfl, HSame.out _ (Below.refl _ _)⟩
  · have b1 : idB index = true := by cases hb : idB index; exact absurd (.inl hb) h1; rfl
    have b2 : idB term = true := by cases hb : idB term; exact absurd (.inr hb) h1; rfl
    have r1 := (idB_iff _).1 b1
    have r2 := (idB_iff _).1 b2
    by_cases h2 : 60000 < data.length
    · have HT : Hid (snapE size s index term data = (2, s)) := by show _ = _; unfold snapE; rw [if_neg h1, if_pos h2]
      have h2' : (60000 : Int) < ((strOf data).size : Int) := by omega
      have h2'' : (60000 : Int) < (data.length : Int) := by omega
      clear hM hD hUS hB hk h1
      go_enter Tryz.func15, Tryz.ntmps15
      go_wp2_with (go_at_call 31; refine (isId_any _ _).mono ?_; rintro e w2 ⟨rfl, rfl⟩)
      go_ret
      rw [HT.out]
      exact ⟨rfl, HSame.out _ (Below.refl _ _)⟩
    · have h2' : ¬ (60000 : Int) < ((strOf data).size : Int) := by omega
      have h2'' : ¬ (60000 : Int) < (data.length : Int) := by omega
      by_cases h3 : index ≤ s.snap.i
      · have HT : Hid (snapE size s index term data = (10, s)) := by show _ = _; unfold snapE; rw [if_neg h1, if_neg h2, if_pos h3]
        clear hM hD hUS hB hk h1
        generalize s.snap.i = I at *
        go_enter Tryz.func15, Tryz.ntmps15
        go_wp2_with (go_at_call 31; refine (isId_any _ _).mono ?_; rintro e w2 ⟨rfl, rfl⟩)
        go_ret
        rw [HT.out]
        exact ⟨rfl, HSame.out _ (Below.refl _ _)⟩
      · by_cases h4 : term < s.snap.t
        · have HT : Hid (snapE size s index term data = (1, s)) := by show _ = _; unfold snapE; rw [if_neg h1, if_neg h2, if_neg h3, if_pos h4]
          clear hM hD hUS hB hk h1
          generalize s.snap.i = I at *
          generalize s.snap.t = ST at *
          go_enter Tryz.func15, Tryz.ntmps15
          go_wp2_with (go_at_call 31; refine (isId_any _ _).mono ?_; rintro e w2 ⟨rfl, rfl⟩)
          go_ret
          rw [HT.out]
          exact ⟨rfl, HSame.out _ (Below.refl _ _)⟩
        · obtain ⟨s', hs1⟩ : ∃ s', s' = ({ s with snap := ⟨term, index, data⟩, list := beginE s ⟨term, index, data⟩, hs := true } : LSt) := ⟨_, rfl⟩
          have HT : Hid (snapE size s index term data = if repE size s.fs nS (strOf (snapB ⟨term, index, data⟩)) ≠ 0 then (repE size s.fs nS (strOf (snapB ⟨term, index, data⟩)), s) else (0, s')) := by show _ = _; unfold snapE; rw [if_neg h1, if_neg h2, if_neg h3, if_neg h4, hs1]
          have hb1 : Below w.heap.size w (w.alloc (.cells #[.int .i64 term, .int .i64 index, .string (strOf data)] 37)) := (Below.refl _ _).alloc (Nat.le_refl _) _
          have HB1 := hid hb1
          have HBt : Hid (∀ W, Below (w.alloc (.cells #[.int .i64 term, .int .i64 index, .string (strOf data)] 37)).heap.size (w.alloc (.cells #[.int .i64 term, .int .i64 index, .string (strOf data)] 37)) W → Below w.heap.size w W) := fun W hW => hb1.trans (hW.mono hb1.size)
          obtain ⟨n0, n1, n2⟩ := new3 w (.int .i64 term) (.int .i64 index) (.string (strOf data)) 37
          have H24 : Hid (∀ W, Below w.heap.size w W → Calls Tryz.prog 28 #[.pointer (some ⟨q, 0, none⟩)] W fun e w' => e = .returned (.pointer (some ⟨a, 0, none⟩)) ∧ W = w') := fun W hW => ldisk_any (hM.under hW)
          have HK : Hid (∀ W, Below (w.alloc (.cells #[.int .i64 term, .int .i64 index, .string (strOf data)] 37)).heap.size (w.alloc (.cells #[.int .i64 term, .int .i64 index, .string (strOf data)] 37)) W → W.cell? ⟨q, 7, none⟩ = some (.string ⟨#[114]⟩) ∧ W.cell? ⟨w.heap.size, 0, none⟩ = some (.int .i64 term) ∧ W.cell? ⟨w.heap.size, 1, none⟩ = some (.int .i64 index) ∧ W.cell? ⟨w.heap.size, 2, none⟩ = some (.string (strOf data))) := fun W hW => by
            have hh := kept_blk hW
            exact ⟨(hM.under (HBt.out W hW)).c.c7, cell_at hh rfl, cell_at hh rfl, cell_at hh rfl⟩
          have H26 : Hid (∀ W, Below (w.alloc (.cells #[.int .i64 term, .int .i64 index, .string (strOf data)] 37)).heap.size (w.alloc (.cells #[.int .i64 term, .int .i64 index, .string (strOf data)] 37)) W → Calls Tryz.prog 32 #[.agg #[.int .i64 term, .int .i64 index, .string (strOf data)]] W fun e w' => e = .returned (.string (strOf (snapB ⟨term, index, data⟩))) ∧ Below (w.alloc (.cells #[.int .i64 term, .int .i64 index, .string (strOf data)] 37)).heap.size (w.alloc (.cells #[.int .i64 term, .int .i64 index, .string (strOf data)] 37)) w') := fun W hW => (snapText_any ⟨term, index, data⟩ W ⟨by simp; omega, by simp; omega⟩ ⟨by simp; omega, by simp; omega⟩ (by simp; omega)).mono fun e w' ⟨e1, e2⟩ => ⟨e1, hW.trans (e2.mono hW.size)⟩
          have hsl := sealL_length (intsL [index, term] ++ textL data)
          have hll := intsL_length [index, term]
          have htl := textL_len2 data
          have hnS0 : ¬ S w.heap.size := fun hS => by have := hD.below _ hS; omega
          have H25 : Hid (∀ W, Below (w.alloc (.cells #[.int .i64 term, .int .i64 index, .string (strOf data)] 37)).heap.size (w.alloc (.cells #[.int .i64 term, .int .i64 index, .string (strOf data)] 37)) W → Calls Tryz.prog 29 #[.pointer (some ⟨a, 0, none⟩), .string nS, .string (strOf (snapB ⟨term, index, data⟩))] W fun e w' => e = .returned (.int .i64 (repE size s.fs nS (strOf (snapB ⟨term, index, data⟩)) : Int)) ∧ Hid (AfterA S w w' a size (repL size s.fs nS (strOf (snapB ⟨term, index, data⟩)))) ∧ w'.cell? ⟨q, 7, none⟩ = some (.string ⟨#[114]⟩) ∧ w'.cell? ⟨w.heap.size, 0, none⟩ = some (.int .i64 term) ∧ w'.cell? ⟨w.heap.size, 1, none⟩ = some (.int .i64 index) ∧ w'.cell? ⟨w.heap.size, 2, none⟩ = some (.string (strOf data))) := fun W hW => by
            have hbW := HBt.out W hW
            refine (replaceA (hD.under hbW) nS (strOf (snapB ⟨term, index, data⟩)) (by decide) (by rw [strOf_size]; unfold snapB maxLen; simp only [List.length_append, List.length_cons, List.length_nil] at *; omega)).mono fun e w' ⟨e1, e2⟩ => ?_
            obtain ⟨S', g1, g2, g3, g4⟩ := id e2
            have hh := (g4.block w.heap.size (by have := hW.size; simp at this; omega) hnS0).trans (kept_blk hW)
            exact ⟨e1, AfterA.begun hbW e2, ((hM.under hbW).beside g4 (fun k hU hS => hUS k hS hU)).c.c7, cell_at hh rfl, cell_at hh rfl, cell_at hh rfl⟩
          obtain ⟨_, R2, R3⟩ := rep_S size (lB s) (sB s) (tB s) (snapB ⟨term, index, data⟩)
          have HR2 : Hid (repE size s.fs nS (strOf (snapB ⟨term, index, data⟩)) = 0 → repL size s.fs nS (strOf (snapB ⟨term, index, data⟩)) = fsOf (lB s) (some (snapB ⟨term, index, data⟩)) (tB s)) := R2
          have HR3 : Hid (repE size s.fs nS (strOf (snapB ⟨term, index, data⟩)) ≠ 0 → repL size s.fs nS (strOf (snapB ⟨term, index, data⟩)) = s.fs) := R3
          have hsm : s'.term = s.term ∧ s'.vote = s.vote ∧ s'.snap = ⟨term, index, data⟩ ∧ s'.list = beginE s ⟨term, index, data⟩ := by rw [hs1]; exact ⟨rfl, rfl, rfl, rfl⟩
          have HNo : Hid (∀ W, AfterA S w W a size s.fs → LDA B w W q a size s) := fun W hA => LDA.of hM hD hUS hB hA (fun hM1 => LAfter.same hM1 (Below.refl _ _))
          have H27 : Hid (∀ W, Hid (AfterA S w W a size (fsOf (lB s) (some (snapB ⟨term, index, data⟩)) (tB s))) → Calls Tryz.prog 33 #[.pointer (some ⟨q, 0, none⟩), .agg #[.int .i64 term, .int .i64 index, .string (strOf data)]] W fun e w' => e = .returned (.tuple #[]) ∧ Hid (Mid B w w' q a size s' (fsOf (lB s) (some (snapB ⟨term, index, data⟩)) (tB s)))) := fun W hA => by
            obtain ⟨S', g1, g2, g3, g4⟩ := id hA.out
            have hM1 := hM.beside g4 (fun k hU hS => hUS k hS hU)
            exact (begin_any hM1 hlb hk ⟨term, index, data⟩ s' hsm).mono fun e w' ⟨e1, e2⟩ => ⟨e1, Mid.of hM hUS hB hA.out (fun _ => e2)⟩
          have hbs := begin_short (s := s) ⟨term, index, data⟩
          have hLb : (lB s).getD [] = logB s.list := by
            unfold lB
            cases hl : s.hl with
            | false => rw [hk.hl hl]; rfl
            | true => rfl
          have hLt : (logB s.list).length ≤ 16777216 := by
            have h5 := total_fs (lB s) (sB s) (tB s)
            have h6 := hD.facts
            have h7 : totalA s.fs = totalA (fsOf (lB s) (sB s) (tB s)) := rfl
            rw [hLb] at h5
            omega
          have hfin : fsOf ((lB s).map fun _ => logB s'.list) (sB s') (tB s') = s'.fs := by
            rw [hs1]
            unfold LSt.fs lB
            cases s.hl <;> rfl
          have hsb : fsOf (lB s) (some (snapB ⟨term, index, data⟩)) (tB s) = fsOf (lB s) (sB s') (tB s') := by rw [hs1]; rfl
          have hlb' : LB s' := ⟨by rw [hsm.2.2.1]; simp; omega, by rw [hsm.2.2.1]; simp; omega, by
            rw [hsm.2.2.2]
            have h8 := logB_length_ge (beginE s ⟨term, index, data⟩)
            have := hbs.1
            omega⟩
          have H28 : Hid (∀ W, Hid (Mid B w W q a size s' (fsOf (lB s) (some (snapB ⟨term, index, data⟩)) (tB s))) → Calls Tryz.prog 34 #[.pointer (some ⟨q, 0, none⟩)] W fun e w' => e = .returned (.int .i64 0) ∧ Hid (LDA B w w' q a size s')) := fun W hm => by
            obtain ⟨U', S', v', m1, m2, m3, m4, m5, m6⟩ := hm.out
            refine (rewrite_any m1 hlb' (fun y hy => ?_) m2 m3 hsb (by rw [hsm.2.2.2, hLb]; exact hbs.1) (by rw [hsm.2.2.2]; have := hbs.1; omega)).mono fun e w' ⟨e1, e2⟩ => ⟨e1, Mid.done m1 m3 m4 m5 m6 (by rw [← hfin]; exact e2)⟩
            rw [hsm.2.2.2] at hy
            have := hk.rng y (hbs.2 y hy)
            exact ⟨⟨by omega, by omega⟩, ⟨by omega, by omega⟩, this.2.2⟩
          have HAd : Hid (∀ W, Hid (AfterA S w W a size (fsOf (lB s) (some (snapB ⟨term, index, data⟩)) (tB s))) → Hid (AfterA S w W.drew a size (fsOf (lB s) (some (snapB ⟨term, index, data⟩)) (tB s)))) := fun W hA => by
            obtain ⟨S', g1, g2, g3, g4⟩ := hA.out
            exact ⟨S', g1.under (Below.refl _ _).drew, g2, g3, g4.trans (Keeps.of_below (S := S) (Below.refl _ _).drew) (fun x hx => .inl hx)⟩
          have hnS : (⟨#[114]⟩ ++ ⟨#[46, 115, 110, 97, 112]⟩ : ByteArray) = nS := by decide
          have i3 : ¬ index ≤ s.snap.i := h3
          clear hM hD hUS hB hk h1 hs1 R2 R3 hsm hbs hLb hLt hfin hsb hlb' hlb hsl hll htl hnS0 hb1
          generalize hE : repE size s.fs nS (strOf (snapB ⟨term, index, data⟩)) = E at *
          clear hE
          generalize repL size s.fs nS (strOf (snapB ⟨term, index, data⟩)) = FL at *
          generalize snapB ⟨term, index, data⟩ = SB at *
          generalize s.snap.i = I at *
          generalize s.snap.t = ST at *
          go_enter Tryz.func15, Tryz.ntmps15
          go_wp2_with (go_at_call 31; refine (isId_two _ _).mono ?_; rintro e w2 ⟨rfl, rfl⟩)
          have P1 := HK.out _ (Below.refl _ _)
          generalize w.alloc (.cells #[.int .i64 term, .int .i64 index, .string (strOf data)] 37) = W1 at *
          go_region_held3 (fun w' => w'.cell? ⟨q, 7, none⟩ = some (.string ⟨#[114]⟩) ∧ w'.cell? ⟨w.heap.size, 0, none⟩ = some (.int .i64 term) ∧ w'.cell? ⟨w.heap.size, 1, none⟩ = some (.int .i64 index) ∧ w'.cell? ⟨w.heap.size, 2, none⟩ = some (.string (strOf data))) (first | exact P5 | exact P4 | exact P1)
            (first
            | (go_at_call 28; refine (H24.out _ (by first | exact HB1.out | exact HB1.out.drew | exact HBt.out _ hb4 | exact (HBt.out _ hb4).drew)).mono ?_; rintro e w2 ⟨rfl, rfl⟩)
            | (go_at_call 32; refine (H26.out _ (by first | exact Below.refl _ _ | exact (Below.refl _ _).drew)).mono ?_; rintro e w4 ⟨rfl, hb4⟩; have P4 := HK.out _ hb4)
            | (go_at_call 29; refine (H25.out _ (by first | exact hb4 | exact hb4.drew)).mono ?_; rintro e w5 ⟨rfl, HA5, P5⟩)
            | fail)
          all_goals
            by_cases hE0 : E = 0
            · rw [if_neg (fun h => h hE0)] at HT
              have HF : Hid (FL = fsOf (lB s) (some SB) (tB s)) := HR2.out hE0
              rw [HF.out] at HA5
              have hE' : ((E : Int) != 0) = false := by simp [hE0]
              clear hE0
              go_wp2_with fail
              obtain ⟨z7, z0, z1, z2⟩ := P5
              go_region_with (first
                | (go_at_call 33; refine (H27.out _ (by first | exact HA5 | exact HAd.out _ HA5)).mono ?_; rintro e w6 ⟨rfl, HM6⟩)
                | fail)
              all_goals
                go_wp2_with (go_at_call 34; refine (H28.out _ HM6).mono ?_; rintro e w7 ⟨rfl, HL7⟩)
                go_ret
                rw [HT.out]
                exact ⟨rfl, HL7.out⟩
            · rw [if_pos hE0] at HT
              have HF : Hid (FL = s.fs) := HR3.out hE0
              rw [HF.out] at HA5
              have hE' : ((E : Int) != 0) = true := by simp; omega
              clear hE0
              go_wp2_with fail
              go_ret
              rw [HT.out]
              exact ⟨rfl, HNo.out _ HA5.out⟩
end Go.Proofs.YtclldpecbocclaaGreat

