/- What is read back: the term and the vote. -/
import Derived.Test.YtclldpecbocclaaGreatKG22
import Derived.Test.YtclldpecbocclaaGreatK3
import Derived.Test.YtclldpecbocclaaGreatK1
import Derived.Test.YtclldpecbocclaaGreatK11
namespace Go.Proofs.YtclldpecbocclaaGreat
open Go.RowKit Go.Maps
set_option maxRecDepth 100000
set_option linter.unusedSimpArgs false
set_option linter.unusedVariables false

set_option maxHeartbeats 1600000 in
theorem readTerm_yes (t v : Int) (w : World) (ht : 0 ≤ t ∧ t ≤ 1000000000) (hv : 0 ≤ v ∧ v ≤ 1000000000) :
    Calls Tryz.prog 58 #[.string (strOf (termB t v))] w fun e w' => e = .returned (.tuple #[.int .i64 t, .int .i64 v, .int .i64 0]) ∧ Below w.heap.size w w' := by
  have hil := intsL_length [t, v]
  simp only [List.length_cons, List.length_nil] at hil
  have HU := hid (unseal_seal (intsL [t, v]) w (by omega))
  have s1 : numS ⟨intsL [t, v], false⟩ = (t, ⟨intL v, false⟩) := by
    have e : intsL [t, v] = intL t ++ intL v := by simp [intsL]
    rw [e]; exact numS_intL _ _ ⟨by omega, by omega⟩
  have s2 : numS ⟨intL v, false⟩ = (v, ⟨[], false⟩) := by
    have := numS_intL v [] ⟨by omega, by omega⟩
    rw [List.append_nil] at this; exact this
  have t1 : numB t = true := (numB_iff _).2 ht
  have t2 : numB v = true := (numB_iff _).2 hv
  have HR := hid (pread_any (intsL [t, v]) w)
  have hP : Pd (w.alloc (.cells #[.string (strOf (intsL [t, v])), .bool false] 132)) w.heap.size ⟨intsL [t, v], false⟩ := ⟨heap_alloc_new w _, by unfold maxLen; simp only; omega⟩
  have HP := hid hP
  have HB0 : Hid (Below w.heap.size w (w.alloc (.cells #[.string (strOf (intsL [t, v])), .bool false] 132))) := hid ((Below.refl _ _).alloc (Nat.le_refl _) _)
  have S1 := hid s1
  have S2 := hid s2
  clear hP s1 s2 hil
  unfold termB
  generalize intsL [t, v] = BD at *
  generalize sealL BD = SS at *
  go_enter Tryz.func58, Tryz.ntmps58
  go_wp2_with fail
  refine HU.out.mono ?_
  rintro e w1 ⟨rfl, hw1⟩
  obtain rfl : w = w1 := hw1.symm
  clear hw1
  go_wp2_with fail
  refine HR.out.mono ?_
  rintro e w1 ⟨rfl, rfl⟩
  generalize w.alloc (.cells #[.string (strOf BD), .bool false] 132) = W1 at *
  have C1 := hid (pnum_any HP.out)
  rw [S1.out] at C1
  go_wp2_with fail
  refine C1.out.mono ?_
  rintro e w2 ⟨rfl, hp2, hg2⟩
  have C2 := hid (pnum_any hp2)
  rw [S2.out] at C2
  have HB2 := hid (grown_below2 HB0.out hg2 (by omega))
  clear hp2 hg2 C1
  go_wp2_with fail
  refine C2.out.mono ?_
  rintro e w3 ⟨rfl, hp3, hg3⟩
  have HB3 := hid (grown_below2 HB2.out hg3 (by omega))
  have C4 := hid (pdone_any hp3)
  have hd1 : doneS ⟨[], false⟩ = true := rfl
  rw [hd1] at C4
  clear hp3 hg3 C2
  have I1 := hid (isNum_any t w3)
  have I2 := hid (isNum_any v w3)
  rw [t1] at I1
  rw [t2] at I2
  go_wp2_with fail
  refine C4.out.mono ?_
  rintro e w5 ⟨rfl, rfl⟩
  go_wp2_with fail
  refine I1.out.mono ?_
  rintro e w6 ⟨rfl, rfl⟩
  go_wp2_with fail
  refine I2.out.mono ?_
  rintro e w6 ⟨rfl, rfl⟩
  go_wp2_with fail
  refine bodyPost_ret (v := .tuple #[.int .i64 t, .int .i64 v, .int .i64 0]) (by simp [results, Tryz.results58, go_sem]) rfl ⟨rfl, HB3.out⟩
set_option maxHeartbeats 1600000 in
theorem loadTerm_yes {w : World} {U S q a v s size F} (hM : LogM w U q a v s) (hD : DiskA w S a size F) (t vt : Int) (ht : 0 ≤ t ∧ t ≤ 1000000000) (hv : 0 ≤ vt ∧ vt ≤ 1000000000) (hF : alook F nT.data.toList = some ⟨nT.data.toList, termB t vt, (termB t vt).length⟩) :
    Calls Tryz.prog 40 #[.pointer (some ⟨q, 0, none⟩)] w fun e w' => e = .returned (.int .i64 0) ∧ ∃ w1, w' = (w1.setCell ⟨q, 0, none⟩ (.int .i64 t)).setCell ⟨q, 1, none⟩ (.int .i64 vt) ∧ Below w.heap.size w w1 := by
  have c7 := hM.c.c7
  have H24 : Hid (∀ W, Below w.heap.size w W → Calls Tryz.prog 28 #[.pointer (some ⟨q, 0, none⟩)] W fun e w' => e = .returned (.pointer (some ⟨a, 0, none⟩)) ∧ W = w') := fun W hW => ldisk_any (hM.under hW)
  have H48 : Hid (∀ W, Below w.heap.size w W → Calls Tryz.prog 55 #[.pointer (some ⟨a, 0, none⟩), .string nT] W fun e w' => e = .returned (.tuple #[.string (strOf (termB t vt)), .int .i64 0]) ∧ Below w.heap.size w w' ∧ w'.cell? ⟨q, 7, none⟩ = some (.string ⟨#[114]⟩)) := fun W hW => by
    have h1 := readA (hD.under hW) nT (by decide)
    have e1 : abytes F nT.data.toList = termB t vt := by unfold abytes; rw [hF]
    have e2 : synE F nT = 0 := by unfold synE; rw [hF]; rfl
    rw [e1, e2] at h1
    exact h1.mono fun e w' ⟨g1, g2⟩ => ⟨g1, hW.trans (g2.mono hW.size), (hM.under (hW.trans (g2.mono hW.size))).c.c7⟩
  have H53 : Hid (∀ W, Below w.heap.size w W → Calls Tryz.prog 58 #[.string (strOf (termB t vt))] W fun e w' => e = .returned (.tuple #[.int .i64 t, .int .i64 vt, .int .i64 0]) ∧ Below w.heap.size w w') := fun W hW => (readTerm_yes t vt W ht hv).mono fun e w' ⟨g1, g2⟩ => ⟨g1, hW.trans (g2.mono hW.size)⟩
  have HC : Hid (∀ W, Below w.heap.size w W → LC W q a v s) := fun W hW => (hM.under hW).c
  have HFZ : Hid (∀ W j, Below w.heap.size w W → W.frozen? ⟨q, j, none⟩ = false) := fun W j hW => frozen_blk (hM.under hW).box j
  have hn : (⟨#[114]⟩ ++ ⟨#[46, 116, 101, 114, 109]⟩ : ByteArray) = nT := by decide
  clear hM hD hF
  generalize termB t vt = TT at *
  go_enter Tryz.func40, Tryz.ntmps40
  go_wp2_with fail
  go_region_held3 (fun w' => w'.cell? ⟨q, 7, none⟩ = some (.string ⟨#[114]⟩)) (first | exact p3 | exact c7 | go_keep)
    (first
    | (go_at_call 28; refine (H24.out _ (by first | exact Below.refl _ _ | exact (Below.refl _ _).drew)).mono ?_; rintro e w2 ⟨rfl, rfl⟩)
    | (go_at_call 55; refine (H48.out _ (by first | exact Below.refl _ _ | exact (Below.refl _ _).drew)).mono ?_; rintro e w3 ⟨rfl, hb3, p3⟩)
    | fail)
  all_goals
    have HB3 := hid hb3
    clear hb3
    go_wp2_with fail
    refine (H53.out _ (by first | exact HB3.out | exact HB3.out.drew)).mono ?_
    rintro e w4 ⟨rfl, hb4⟩
    have HB4 := hid hb4
    have k0 := (HC.out _ hb4).c0
    have k1 := (HC.out _ hb4).c1
    have z0 := HFZ.out _ 0 hb4
    have z1 := HFZ.out _ 1 hb4
    clear hb4
    go_wp2_with fail
    go_ret
    exact ⟨rfl, w4, rfl, HB4.out⟩
end Go.Proofs.YtclldpecbocclaaGreat

