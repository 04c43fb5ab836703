/- What is read back: the log's file, as loadLog takes it. -/
import Derived.Test.YtclldpecbocclaaGreatKG24
import Derived.Test.YtclldpecbocclaaGreatK14
import Derived.Test.YtclldpecbocclaaGreatK3
import Derived.Test.YtclldpecbocclaaGreatK1
import Derived.Test.YtclldpecbocclaaGreatK16
namespace Go.Proofs.YtclldpecbocclaaGreat
open Go.RowKit Go.Maps
set_option maxRecDepth 100000
set_option linter.unusedSimpArgs false
set_option linter.unusedVariables false

set_option maxHeartbeats 3200000 in
theorem loadLog_yes {w : World} {U S q a v s size F} (hM : LogM w U q a v s) (hD : DiskA w S a size F) (l : List Et) (hF : alook F nL.data.toList = some ⟨nL.data.toList, logB l, (logB l).length⟩)
    (hn : 0 ≤ s.snap.i ∧ s.snap.i ≤ 1000000000) (hx : ∀ x ∈ l, (1 ≤ x.t ∧ x.t ≤ 1000000000) ∧ (1 ≤ x.i ∧ x.i ≤ 1000000000) ∧ x.d.length ≤ 2048)
    (h0 : ∀ x, l[0]? = some x → x.i ≤ s.snap.i + 1) (hc : ∀ k x y, l[k]? = some y → l[k + 1]? = some x → x.i = y.i + 1 ∧ y.t ≤ x.t) (hlen : (logB l).length ≤ 8000000) (hl : 0 < l.length) :
    Calls Tryz.prog 42 #[.pointer (some ⟨q, 0, none⟩)] w fun e w' => e = .returned (.int .i64 0) ∧ ∃ v' w1, w' = w1.setCell ⟨q, 5, none⟩ v' ∧ Below w.heap.size w w1 ∧ EL w1 v' (l.drop (behindN s.snap.i l)) ∧ (∀ k, v'.ownBlock = some k → w.heap.size ≤ k) := by
  have c7 := hM.c.c7
  have hge := logB_length_ge l
  have H24 : Hid (∀ W, Below w.heap.size w W → Calls Tryz.prog 28 #[.pointer (some ⟨q, 0, none⟩)] W fun e w' => e = .returned (.pointer (some ⟨a, 0, none⟩)) ∧ W = w') := fun W hW => ldisk_any (hM.under hW)
  have H48 : Hid (∀ W, Below w.heap.size w W → Calls Tryz.prog 55 #[.pointer (some ⟨a, 0, none⟩), .string nL] W fun e w' => e = .returned (.tuple #[.string (strOf (logB l)), .int .i64 0]) ∧ Below w.heap.size w w' ∧ w'.cell? ⟨q, 7, none⟩ = some (.string ⟨#[114]⟩)) := fun W hW => by
    have h1 := readA (hD.under hW) nL (by decide)
    have e1 : abytes F nL.data.toList = logB l := by unfold abytes; rw [hF]
    have e2 : synE F nL = 0 := by unfold synE; rw [hF]; rfl
    rw [e1, e2] at h1
    exact h1.mono fun e w' ⟨g1, g2⟩ => ⟨g1, hW.trans (g2.mono hW.size), (hM.under (hW.trans (g2.mono hW.size))).c.c7⟩
  have H55 : Hid (∀ W, Calls Tryz.prog 60 #[.string (strOf (logB l)), .int .i64 s.snap.i] W fun e w' => ∃ v', e = .returned (.tuple #[v', .int .i64 (logB l).length, .int .i64 0]) ∧ EL w' v' l ∧ (∀ k, v'.ownBlock = some k → W.heap.size ≤ k) ∧ Below W.heap.size W w') := fun W => readEntries_yes l s.snap.i W hn hx h0 hc hlen
  have HC3 : Hid (∀ W, Below w.heap.size w W → W.cell? ⟨q, 3, none⟩ = some (.int .i64 s.snap.i)) := fun W hW => (hM.under hW).c.c3
  have HC5 : Hid (∀ W, Below w.heap.size w W → W.cell? ⟨q, 5, none⟩ = some v) := fun W hW => (hM.under hW).c.c5
  have HFZ : Hid (∀ W, Below w.heap.size w W → W.frozen? ⟨q, 5, none⟩ = false) := fun W hW => frozen_blk (hM.under hW).box 5
  have hnm : (⟨#[114]⟩ ++ ⟨#[46, 108, 111, 103]⟩ : ByteArray) = nL := by decide
  have hsz := strOf_size (logB l)
  clear hM hD hF hx h0 hc
  generalize s.snap.i = I at *
  generalize logB l = LL at *
  go_enter Tryz.func42, Tryz.ntmps42
  go_wp2_with fail
  go_region_held3 (fun w' => w'.cell? ⟨q, 7, none⟩ = some (.string ⟨#[114]⟩)) (first | exact p3 | exact c7 | go_keep)
    (first
    | (go_at_call 28; refine (H24.out _ (by first | exact Below.refl _ _ | exact (Below.refl _ _).drew)).mono ?_; rintro e w2 ⟨rfl, rfl⟩)
    | (go_at_call 55; refine (H48.out _ (by first | exact Below.refl _ _ | exact (Below.refl _ _).drew)).mono ?_; rintro e w3 ⟨rfl, hb3, p3⟩)
    | fail)
  all_goals
    have HB3 := hid hb3
    have k3 := HC3.out _ HB3.out
    have k3d := HC3.out _ HB3.out.drew
    clear hb3
    go_wp2_with fail
    refine (H55.out _).mono ?_
    rintro e w4 ⟨vl, rfl, hE4, ho4, hb4⟩
    have HB4 := hid (HB3.out.trans (hb4.mono HB3.out.size))
    obtain ⟨oa, cap, rfl, hcap, hcm, hnn, hoa⟩ := hE4.shape
    obtain ⟨g, rfl⟩ := hoa hl
    have HBH := hid (behind_any hE4.at (by omega) rfl hcap hcm I)
    have k4 := HC3.out _ HB4.out
    clear hE4 ho4 hb4 hoa hnn k3 k3d
    go_wp2_with fail
    refine HBH.out.mono ?_
    rintro e w5 ⟨v5, rfl, hE5, ho5, hb5⟩
    have HB5 := hid (HB4.out.trans (hb5.mono HB4.out.size))
    have k5 := HC5.out _ HB5.out
    have z5 := HFZ.out _ HB5.out
    have HE5 := hid hE5
    have HO5 := hid (fun k hk => Nat.le_trans HB4.out.size (ho5 k hk))
    clear hE5 ho5 hb5 k4
    have hnl : ¬ (LL.length : Int) < (LL.length : Int) := by omega
    obtain ⟨o6, c6, rfl, _, _, _, _⟩ := HE5.out.shape
    go_wp2_with fail
    go_ret
    exact ⟨rfl, _, w5, rfl, HB5.out, by simpa using HE5.out, by simpa using HO5.out⟩
end Go.Proofs.YtclldpecbocclaaGreat

