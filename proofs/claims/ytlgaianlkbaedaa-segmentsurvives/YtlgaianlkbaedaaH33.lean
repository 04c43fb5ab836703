/- Read. -/
import Derived.Test.YtlgaianlkbaedaaH32
namespace Go.Proofs.Ytlgaianlkbaedaa
open Go.RowKit Go.Maps Go.Sort
set_option maxRecDepth 100000
set_option linter.unusedSimpArgs false
set_option linter.unusedVariables false

/-- Where Read stands. -/
structure RdAt (w wr : World) (c : Nat) (m : Mk) (l : List UInt8) (sv : Value) (ps : List (Bat × Value)) : Prop where
  below : Below w.heap.size w wr
  bl : BL wr w.heap.size sv ps
  box : wr.heap[c]? = some (.cells #[.int .i64 (m.base : Int), .int .i64 (m.at_ : Int), .int .i64 (m.nth : Int), .string (strOf l)] 83)
  hi : ∀ p ∈ ps, ∀ k, p.2.ownBlock = some k → c < k
  low : w.heap.size ≤ c
theorem RdAt.under {w wr W c m l sv ps} (h : RdAt w wr c m l sv ps) (hb : Below wr.heap.size wr W) : RdAt w W c m l sv ps :=
  ⟨h.below.trans (hb.mono h.below.size), h.bl.under hb, (hb.block _ (Array.getElem?_eq_some_iff.1 h.box).1).trans h.box, h.hi, h.low⟩
theorem RdAt.off {w wr c m l sv ps} (h : RdAt w wr c m l sv ps) : sv.ownBlock ≠ some c := fun e => by
  obtain ⟨_, ⟨e0, _⟩ | ⟨g', cap', cur, e0, hb, hg, _⟩⟩ := h.bl.row
  · rw [e0] at e; cases e
  · rw [e0] at e
    cases e
    have := h.box
    rw [hg] at this
    cases this
/-- A batch is added, and the cursor set. -/
theorem RdAt.push {w wr w6 w8 : World} {c : Nat} {m l sv ps} (h : RdAt w wr c m l sv ps) (h6 : Below wr.heap.size wr w6) (b : Bat) (rv : Value) (hr : Recs w6 rv b.recs) (hne : b.recs ≠ []) (ho : ∀ k, rv.ownBlock = some k → wr.heap.size ≤ k) (W : World) (hW : Below w6.heap.size w6 W) {v' : Value} (hown : w8.ownsRow w.heap.size 34 6 v' (ps.length + 1) (flatB ps ++ bcells b rv)) (hg : W.grownBy w8 sv.ownBlock) (hat : v'.ownBlock = sv.ownBlock ∨ v'.ownBlock = some W.heap.size) :
    (∀ k, k < W.heap.size → wr.heap.size ≤ k ∨ k = c → w8.heap[k]? = W.heap[k]?) ∧ ∀ (m2 : Mk) (l2 : List UInt8), RdAt w ((((w8.setCell ⟨c, 0, none⟩ (.int .i64 (m2.base : Int))).setCell ⟨c, 1, none⟩ (.int .i64 (m2.at_ : Int))).setCell ⟨c, 2, none⟩ (.int .i64 (m2.nth : Int))).setCell ⟨c, 3, none⟩ (.string (strOf l2))) c m2 l2 v' (ps ++ [(b, rv)]) := by
  have hoff := h.off
  have hcl := (Array.getElem?_eq_some_iff.1 h.box).1
  have h6s := h6.size
  have hWs := hW.size
  have hgs := hg.size
  have hwl := h.below.size
  have hbW : Below wr.heap.size wr W := h6.trans (hW.mono h6s)
  have hW' := h.under hbW
  have key : ∀ k, k < W.heap.size → wr.heap.size ≤ k ∨ k = c → w8.heap[k]? = W.heap[k]? := fun k hk hh => hg.block k hk (fun e => by
    rcases hh with hh | hh
    · have := (World.ownsRow.lt h.bl.row k e.symm).2; omega
    · rw [hh] at e; exact hoff e.symm)
  have hbl8 : BL w8 w.heap.size v' (ps ++ [(b, rv)]) := hW'.bl.push b rv (hr.under hW) (fun k hk => by
    have h1 := ho k hk
    have h2 := hr.lt hne k hk
    exact ⟨by omega, by omega, fun e => by have := (World.ownsRow.lt h.bl.row k e).2; omega⟩) hown hg hat
  refine ⟨key, fun m2 l2 => ?_⟩
  have hb : ∀ k, k ≠ c → ((((w8.setCell ⟨c, 0, none⟩ (.int .i64 (m2.base : Int))).setCell ⟨c, 1, none⟩ (.int .i64 (m2.at_ : Int))).setCell ⟨c, 2, none⟩ (.int .i64 (m2.nth : Int))).setCell ⟨c, 3, none⟩ (.string (strOf l2))).heap[k]? = w8.heap[k]? := fun k hk => by
    rw [Below.heap_setCell _ ⟨c, 3, none⟩ _ k hk]
    exact three_keep w8 c k _ _ _ hk
  have hsz : ((((w8.setCell ⟨c, 0, none⟩ (.int .i64 (m2.base : Int))).setCell ⟨c, 1, none⟩ (.int .i64 (m2.at_ : Int))).setCell ⟨c, 2, none⟩ (.int .i64 (m2.nth : Int))).setCell ⟨c, 3, none⟩ (.string (strOf l2))).heap.size = w8.heap.size := by rw [set_size, set_size, set_size, set_size]
  have hhi : ∀ p ∈ ps ++ [(b, rv)], ∀ k, p.2.ownBlock = some k → c < k := fun p hp k hk => by
    rcases List.mem_append.1 hp with hp | hp
    · exact h.hi p hp k hk
    · have e : p = (b, rv) := by simpa using hp
      subst e
      have := ho k hk
      omega
  have hvc : v'.ownBlock ≠ some c := fun e => by
    rcases hat with ha | ha
    · rw [ha] at e; exact hoff e
    · rw [ha] at e; cases e; omega
  have hB8 : Below w.heap.size w w8 := by
    refine ⟨hg.os.trans (hbW.os.trans h.below.os), hg.tape.trans (hbW.tape.trans h.below.tape), hg.output.trans (hbW.output.trans h.below.output), by omega, fun k hk => ?_⟩
    rw [hg.block k (by omega) (fun e => by have := (World.ownsRow.lt h.bl.row k e.symm).1; omega), hbW.block k (by omega)]
    exact h.below.block k hk
  have hlow := h.low
  refine ⟨(((hB8.setCell (by show _ ≤ c; omega) _).setCell (by show _ ≤ c; omega) _).setCell (by show _ ≤ c; omega) _).setCell (by show _ ≤ c; omega) _, ⟨ownsRow_kept hbl8.row (fun k hk => hb k (fun e => hvc (by rw [← e]; exact hk))), fun p hp => (hbl8.recs p hp).off (fun k hk => hb k (by have := hhi p hp k hk; omega)) (by rw [hsz]; exact Nat.le_refl _), fun p hp k hk => by rw [hsz]; exact hbl8.off p hp k hk⟩, ?_, hhi, hlow⟩
  exact set_box (set_box (set_box (set_box ((key c (by omega) (.inr rfl)).trans hW'.box))))
set_option maxHeartbeats 6400000 in
theorem sread_yes {w : World} {B q a base name m ix size fs} (h : SD w B q a base name m ix size fs) (hn : name.size ≤ maxLen) (off most : Int) (ho : (base : Int) ≤ off) (ho2 : off < (m.base : Int)) (hmo : -9223372036854775808 ≤ most ∧ most ≤ 9223372036854775807) (hbase : base ≤ 1000000000) (hlen : ix.length ≤ 5000) {l : List UInt8} (hl : l = abytes fs name.data.toList) (hix : ∀ x ∈ ix, x.base ≤ 1000000000 ∧ x.at_ ≤ l.length ∧ x.nth ≤ 4096) (hB : ∀ R, SeekAny (fun x => decide (off < (x.base : Int))) base m ix l R → R.1.base ≤ 1000000000 ∧ R.1.nth ≤ 4096 ∧ R.1.at_ + R.2.length ≤ 100000000) :
    Calls Try.prog 18 #[.pointer (some ⟨q, 0, none⟩), .int .i64 off, .int .i64 most] w fun e w' => ∃ R ps rv, SeekAny (fun x => decide (off < (x.base : Int))) base m ix l R ∧ e = .returned rv ∧ BL w' w.heap.size rv ps ∧ ps.map Prod.fst = readLs most (R.1.at_ : Int) (R.2.length + 1) false R.1 R.2 ∧ Below w.heap.size w w' := by
  have HX0 := hid (Boxed.laid w (.cells #[.int .i64 off] 3))
  obtain ⟨k2, _⟩ := h.cs2 HX0.out.below
  obtain ⟨k3, _, _⟩ := h.cs HX0.out.below
  have c0 := cell_at HX0.out.box (j := 0) rfl
  have H39 : Hid (∀ W, Boxed w W (.cells #[.int .i64 off] 3) → Calls Try.prog 39 #[.pointer (some ⟨q, 0, none⟩), .func (.func 41) #[] #[.pointer (some ⟨w.heap.size, 0, none⟩)]] W fun e w' => (∃ R, SeekAny (fun x => decide (off < (x.base : Int))) base m ix l R ∧ e = .returned (.agg #[.int .i64 (R.1.base : Int), .int .i64 (R.1.at_ : Int), .int .i64 (R.1.nth : Int), .string (strOf R.2)])) ∧ Below W.heap.size W w') := fun W hc => seek_41 (h.under hc.below) hn w.heap.size off (cell_at hc.box rfl) hbase hlen hl hix
  have HB := hid hB
  have h1 : ¬ off < (base : Int) := by omega
  have h2 : ¬ (m.base : Int) ≤ off := by omega
  clear h hl hB
  go_enter Try.func18, Try.ntmps18
  go_wp2_with fail
  generalize w.alloc (.cells #[.int .i64 off] 3) = W0 at *
  try go_quiet (fail)
  go_wp2_with fail
  try go_quiet (fail)
  try go_wp2_with fail
  refine (H39.out _ (HX0.out.drewN _)).mono ?_
  rintro e w1 ⟨⟨R, hR, rfl⟩, hb1⟩
  have HR := hid hR
  obtain ⟨hR1, hR2, hR3⟩ := HB.out R hR
  have HX1 := hid ((HX0.out.drewN _).next hb1)
  have hs1 := HX1.out.lt
  have HC1 := hid (heap_alloc_new w1 (.cells #[.int .i64 (R.1.base : Int), .int .i64 (R.1.at_ : Int), .int .i64 (R.1.nth : Int), .string (strOf R.2)] 83))
  have HW1 := hid (HX1.out.below.alloc (Nat.le_of_lt hs1) (.cells #[.int .i64 (R.1.base : Int), .int .i64 (R.1.at_ : Int), .int .i64 (R.1.nth : Int), .string (strOf R.2)] 83))
  obtain ⟨x0, x1, x2, x3⟩ := cells4 HC1.out
  clear hR hb1 HX0 HX1 H39 HB k2 k3 c0
  go_wp2_with fail
  have H0 : Hid (RdAt w (w1.alloc (.cells #[.int .i64 (R.1.base : Int), .int .i64 (R.1.at_ : Int), .int .i64 (R.1.nth : Int), .string (strOf R.2)] 83)) w1.heap.size R.1 R.2 (.slice none 0 0) []) := ⟨HW1.out, BL.nil _ _, HC1.out, fun p hp => (by cases hp), Nat.le_of_lt hs1⟩
  obtain ⟨RR, hRR⟩ : ∃ RR, readLs most (R.1.at_ : Int) (R.2.length + 1) false R.1 R.2 = RR := ⟨_, rfl⟩
  have HRR := hid hRR
  clear hRR x0 x1 x2 x3 HC1 HW1
  obtain ⟨i0, hi0, hz0, hz1, hz2⟩ := info34
  go_loopg [7] R.2.length (fun kx s7 wr => ∃ (m' : Mk) (l' : List UInt8) (sv : Value) (ps : List (Bat × Value)), l'.length ≤ kx ∧ s7 = sv ∧ Hid (RdAt w wr w1.heap.size m' l' sv ps) ∧ Hid (m'.base ≤ 1000000000 ∧ m'.nth ≤ 4096 ∧ m'.at_ + l'.length = R.1.at_ + R.2.length ∧ ps.length ≤ m'.nth) ∧ Hid (∃ f, l'.length < f ∧ ps.map Prod.fst ++ readLs most (R.1.at_ : Int) f (!ps.isEmpty) m' l' = RR))
  case atStart => exact ⟨R.1, R.2, _, [], Nat.le_refl _, rfl, H0, ⟨hR1, hR2, rfl, Nat.zero_le _⟩, R.2.length + 1, Nat.lt_succ_self _, HRR.out⟩
  case round =>
    obtain ⟨m', l', sv, ps, hkx, rfl, HD, HMo, HWk⟩ := hrel
    have hcs : w.heap.size ≤ w1.heap.size := Nat.le_of_lt hs1
    generalize w1.heap.size = c at *
    obtain ⟨b0, b1, b2, b3⟩ := cells4 HD.out.box
    have hcl := (Array.getElem?_eq_some_iff.1 HD.out.box).1
    have H42 : Hid (∀ W, Calls Try.prog 42 #[.agg #[.int .i64 (m'.base : Int), .int .i64 (m'.at_ : Int), .int .i64 (m'.nth : Int), .string (strOf l')]] W fun e w' => StepPost m' l' W e w') := fun W => step_any m' ⟨HMo.out.1, by have := HMo.out.2.2.1; omega, HMo.out.2.1⟩ l' (by have := HMo.out.2.2.1; omega) W
    obtain ⟨so, sc, rfl⟩ := HD.out.bl.shape
    clear H0
    cases hs : stepL m' l' with
    | none =>
      have HS := hid hs
      clear hs
      go_wp2_with fail
      refine (H42.out _).mono ?_
      rintro e w6 ⟨hb6, he, _⟩
      obtain rfl := he HS.out
      have hb7 : Below w6.heap.size w6 ((w6.alloc (.cells #[.int .i64 0, .int .i64 0, .int .i64 0, .int .i64 0, .int .i64 0, .slice none 0 0] 34)).alloc (.cells #[.int .i64 (m'.base : Int), .int .i64 (m'.at_ : Int), .int .i64 (m'.nth : Int), .string (strOf l')] 83)) := ((Below.refl _ _).alloc (Nat.le_refl _) _).alloc (by simp) _
      have HD7 := hid ((HD.out.under hb6).under hb7)
      clear hb6 hb7 b0 b1 b2 b3 he
      go_wp2_with fail
      go_ret
      refine ⟨R, ps, _, HR.out, rfl, HD7.out.bl, ?_, HD7.out.below⟩
      rw [HRR.out]
      obtain ⟨f, hf, hw⟩ := HWk.out
      cases f with
      | zero => omega
      | succ f => rw [← hw]; unfold readLs; rw [HS.out]; simp
    | some t =>
      obtain ⟨b, m2, l2⟩ := t
      have HS := hid hs
      clear hs
      obtain ⟨hM2, hlt2⟩ := MOk.next (ix := []) (tot := R.1.at_ + R.2.length) ⟨HMo.out.1, HMo.out.2.1, HMo.out.2.2.1, Nat.zero_le _, fun x hx => (by cases hx)⟩ HS.out
      have hm2a : m2.at_ ≤ 100000000 := by have := hM2.sum; omega
      have hr1a : R.1.at_ ≤ 100000000 := by omega
      have hn2 : m2.nth = m'.nth + 1 := by obtain ⟨_, _, _, h4, _⟩ := stepL_some HS.out; rw [h4]; rfl
      have HN2 := hid hn2
      have HM2 := hid hM2
      clear hM2 hn2
      rcases Nat.eq_zero_or_pos ps.length with hp0 | hp0
      · obtain rfl : ps = [] := List.length_eq_zero_iff.1 hp0
        have HNE : Hid ((!([] : List (Bat × Value)).isEmpty && decide (most < (m2.at_ : Int) - (R.1.at_ : Int))) = false) := rfl
        have HDz : Hid (RdAt w wr c m' l' (.slice so 0 sc) []) := HD
        clear HD hp0
        have HD := HDz
        clear HDz
        go_wp2_with fail
        refine (H42.out _).mono ?_
        rintro e w6 ⟨hb6, _, he⟩
        obtain ⟨rv, rfl, hrec, hro⟩ := he _ _ _ HS.out
        obtain ⟨ra, rc, rfl, _⟩ := hrec.shape
        have HQ := hid (And.intro hb6 (And.intro hrec hro))
        have hs6 := hb6.size
        have hb7 : Below w6.heap.size w6 ((w6.alloc (.cells #[.int .i64 b.base, .int .i64 b.epoch, .int .i64 b.pid, .int .i64 b.pidEpoch, .int .i64 b.seq, .slice ra b.recs.length rc] 34)).alloc (.cells #[.int .i64 (m2.base : Int), .int .i64 (m2.at_ : Int), .int .i64 (m2.nth : Int), .string (strOf l2)] 83)) := ((Below.refl _ _).alloc (Nat.le_refl _) _).alloc (by simp) _
        have HT7 : Hid (((w6.alloc (.cells #[.int .i64 b.base, .int .i64 b.epoch, .int .i64 b.pid, .int .i64 b.pidEpoch, .int .i64 b.seq, .slice ra b.recs.length rc] 34)).alloc (.cells #[.int .i64 (m2.base : Int), .int .i64 (m2.at_ : Int), .int .i64 (m2.nth : Int), .string (strOf l2)] 83)).heap[w6.heap.size + 1]? = some (.cells #[.int .i64 (m2.base : Int), .int .i64 (m2.at_ : Int), .int .i64 (m2.nth : Int), .string (strOf l2)] 83)) := by have h := heap_alloc_new (w6.alloc (.cells #[.int .i64 b.base, .int .i64 b.epoch, .int .i64 b.pid, .int .i64 b.pidEpoch, .int .i64 b.seq, .slice ra b.recs.length rc] 34)) (.cells #[.int .i64 (m2.base : Int), .int .i64 (m2.at_ : Int), .int .i64 (m2.nth : Int), .string (strOf l2)] 83); rw [show (w6.alloc (.cells #[.int .i64 b.base, .int .i64 b.epoch, .int .i64 b.pid, .int .i64 b.pidEpoch, .int .i64 b.seq, .slice ra b.recs.length rc] 34)).heap.size = w6.heap.size + 1 by simp] at h; exact h
        have HY7 : Hid (((w6.alloc (.cells #[.int .i64 b.base, .int .i64 b.epoch, .int .i64 b.pid, .int .i64 b.pidEpoch, .int .i64 b.seq, .slice ra b.recs.length rc] 34)).alloc (.cells #[.int .i64 (m2.base : Int), .int .i64 (m2.at_ : Int), .int .i64 (m2.nth : Int), .string (strOf l2)] 83)).heap[w6.heap.size]? = some (.cells #[.int .i64 b.base, .int .i64 b.epoch, .int .i64 b.pid, .int .i64 b.pidEpoch, .int .i64 b.seq, .slice ra b.recs.length rc] 34)) := (Below.heap_alloc _ _ _ (by simp)).trans (heap_alloc_new w6 (.cells #[.int .i64 b.base, .int .i64 b.epoch, .int .i64 b.pid, .int .i64 b.pidEpoch, .int .i64 b.seq, .slice ra b.recs.length rc] 34))
        have HD7 := hid ((HD.out.under hb6).under hb7)
        clear hrec hro he b0 b1 b2 b3
        obtain ⟨t0, t1, t2, t3⟩ := cells4 HT7.out
        have y0 := cell_at HY7.out (j := 0) rfl
        have y1 := cell_at HY7.out (j := 1) rfl
        have y2 := cell_at HY7.out (j := 2) rfl
        have y3 := cell_at HY7.out (j := 3) rfl
        have y4 := cell_at HY7.out (j := 4) rfl
        have y5 := cell_at HY7.out (j := 5) rfl
        have hb8 : Below w6.heap.size w6 (((w6.alloc (.cells #[.int .i64 b.base, .int .i64 b.epoch, .int .i64 b.pid, .int .i64 b.pidEpoch, .int .i64 b.seq, .slice ra b.recs.length rc] 34)).alloc (.cells #[.int .i64 (m2.base : Int), .int .i64 (m2.at_ : Int), .int .i64 (m2.nth : Int), .string (strOf l2)] 83)).alloc (.cells #[.int .i64 b.base, .int .i64 b.epoch, .int .i64 b.pid, .int .i64 b.pidEpoch, .int .i64 b.seq, .slice ra b.recs.length rc] 34)) := hb7.alloc (by simp; omega) _
        have HW8 := hid hb8
        have HROW : Hid ((((w6.alloc (.cells #[.int .i64 b.base, .int .i64 b.epoch, .int .i64 b.pid, .int .i64 b.pidEpoch, .int .i64 b.seq, .slice ra b.recs.length rc] 34)).alloc (.cells #[.int .i64 (m2.base : Int), .int .i64 (m2.at_ : Int), .int .i64 (m2.nth : Int), .string (strOf l2)] 83)).alloc (.cells #[.int .i64 b.base, .int .i64 b.epoch, .int .i64 b.pid, .int .i64 b.pidEpoch, .int .i64 b.seq, .slice ra b.recs.length rc] 34)).ownsRow w.heap.size 34 6 (.slice so 0 sc) 0 (flatB [])) := ((HD.out.under hb6).under hb8).bl.row
        have HNW : Hid (∀ j u, (bcells b (.slice ra b.recs.length rc))[j]? = some u → (((w6.alloc (.cells #[.int .i64 b.base, .int .i64 b.epoch, .int .i64 b.pid, .int .i64 b.pidEpoch, .int .i64 b.seq, .slice ra b.recs.length rc] 34)).alloc (.cells #[.int .i64 (m2.base : Int), .int .i64 (m2.at_ : Int), .int .i64 (m2.nth : Int), .string (strOf l2)] 83)).alloc (.cells #[.int .i64 b.base, .int .i64 b.epoch, .int .i64 b.pid, .int .i64 b.pidEpoch, .int .i64 b.seq, .slice ra b.recs.length rc] 34)).cell? ((⟨w6.heap.size + 1 + 1, 0, none⟩ : Addr).add j) = some u) := fun j u hu => by
          have hadd : (⟨w6.heap.size + 1 + 1, 0, none⟩ : Addr).add j = ⟨w6.heap.size + 1 + 1, j, none⟩ := by unfold Addr.add; split <;> simp_all
          rw [hadd]
          have hh := heap_alloc_new ((w6.alloc (.cells #[.int .i64 b.base, .int .i64 b.epoch, .int .i64 b.pid, .int .i64 b.pidEpoch, .int .i64 b.seq, .slice ra b.recs.length rc] 34)).alloc (.cells #[.int .i64 (m2.base : Int), .int .i64 (m2.at_ : Int), .int .i64 (m2.nth : Int), .string (strOf l2)] 83)) (.cells #[.int .i64 b.base, .int .i64 b.epoch, .int .i64 b.pid, .int .i64 b.pidEpoch, .int .i64 b.seq, .slice ra b.recs.length rc] 34)
          rw [show ((w6.alloc (.cells #[.int .i64 b.base, .int .i64 b.epoch, .int .i64 b.pid, .int .i64 b.pidEpoch, .int .i64 b.seq, .slice ra b.recs.length rc] 34)).alloc (.cells #[.int .i64 (m2.base : Int), .int .i64 (m2.at_ : Int), .int .i64 (m2.nth : Int), .string (strOf l2)] 83)).heap.size = w6.heap.size + 1 + 1 by simp] at hh
          exact cell_at hh (by simpa [bcells] using hu)
        have HON : Hid (∀ u ∈ bcells b (.slice ra b.recs.length rc), u.oneCell' = true) := by intro u hu; simp [bcells] at hu; rcases hu with rfl | rfl | rfl | rfl | rfl | rfl <;> rfl
        have HPU : Hid (∀ v' w8, w8.ownsRow w.heap.size 34 6 v' (0 + 1) (flatB [] ++ bcells b (.slice ra b.recs.length rc)) → (((w6.alloc (.cells #[.int .i64 b.base, .int .i64 b.epoch, .int .i64 b.pid, .int .i64 b.pidEpoch, .int .i64 b.seq, .slice ra b.recs.length rc] 34)).alloc (.cells #[.int .i64 (m2.base : Int), .int .i64 (m2.at_ : Int), .int .i64 (m2.nth : Int), .string (strOf l2)] 83)).alloc (.cells #[.int .i64 b.base, .int .i64 b.epoch, .int .i64 b.pid, .int .i64 b.pidEpoch, .int .i64 b.seq, .slice ra b.recs.length rc] 34)).grownBy w8 (Value.slice so 0 sc).ownBlock → (v'.ownBlock = (Value.slice so 0 sc).ownBlock ∨ v'.ownBlock = some (((w6.alloc (.cells #[.int .i64 b.base, .int .i64 b.epoch, .int .i64 b.pid, .int .i64 b.pidEpoch, .int .i64 b.seq, .slice ra b.recs.length rc] 34)).alloc (.cells #[.int .i64 (m2.base : Int), .int .i64 (m2.at_ : Int), .int .i64 (m2.nth : Int), .string (strOf l2)] 83)).alloc (.cells #[.int .i64 b.base, .int .i64 b.epoch, .int .i64 b.pid, .int .i64 b.pidEpoch, .int .i64 b.seq, .slice ra b.recs.length rc] 34)).heap.size) → (w8.heap[w6.heap.size + 1]? = some (.cells #[.int .i64 (m2.base : Int), .int .i64 (m2.at_ : Int), .int .i64 (m2.nth : Int), .string (strOf l2)] 83) ∧ w8.heap[c]? = some (.cells #[.int .i64 (m'.base : Int), .int .i64 (m'.at_ : Int), .int .i64 (m'.nth : Int), .string (strOf l')] 83)) ∧ RdAt w ((((w8.setCell ⟨c, 0, none⟩ (.int .i64 (m2.base : Int))).setCell ⟨c, 1, none⟩ (.int .i64 (m2.at_ : Int))).setCell ⟨c, 2, none⟩ (.int .i64 (m2.nth : Int))).setCell ⟨c, 3, none⟩ (.string (strOf l2))) c m2 l2 v' ([] ++ [(b, .slice ra b.recs.length rc)])) := fun v' w8 g1 g2 g3 => by
          have hz := HD.out.push HQ.out.1 b _ HQ.out.2.1 (stepL_recs HS.out) HQ.out.2.2 (((w6.alloc (.cells #[.int .i64 b.base, .int .i64 b.epoch, .int .i64 b.pid, .int .i64 b.pidEpoch, .int .i64 b.seq, .slice ra b.recs.length rc] 34)).alloc (.cells #[.int .i64 (m2.base : Int), .int .i64 (m2.at_ : Int), .int .i64 (m2.nth : Int), .string (strOf l2)] 83)).alloc (.cells #[.int .i64 b.base, .int .i64 b.epoch, .int .i64 b.pid, .int .i64 b.pidEpoch, .int .i64 b.seq, .slice ra b.recs.length rc] 34)) HW8.out g1 g2 g3
          refine ⟨⟨(hz.1 (w6.heap.size + 1) (by simp) (.inl (by omega))).trans ?_, (hz.1 c (by simp; omega) (.inr rfl)).trans ?_⟩, hz.2 m2 l2⟩
          · rw [Below.heap_alloc _ _ _ (by simp)]; exact HT7.out
          · exact ((HD.out.under HQ.out.1).under HW8.out).box
        have hpl : 0 ≤ 4096 := by have := HMo.out.2.2.2; have := HMo.out.2.1; omega
        clear hb6 hb7 hb8
        generalize hF : flatB [] = F at *
        clear hF
        go_wp2_with (at_builtin; refine wpList_append_own_at _ rfl _ _ 31 rfl w.heap.size 34 i0 _ 6 64 Try.underlying31 hi0 hz0 hz1 hz2 rfl (by decide) _ 0 F rfl HROW.out ⟨w6.heap.size + 1 + 1, 0, none⟩ 1 1 (bcells b (.slice ra b.recs.length rc)) rfl rfl HNW.out HON.out (by unfold maxLen; omega) (by omega) (by simp; omega) ?_; intro v' w8 hown8 hg8 _ hat8; obtain ⟨⟨g1, g2⟩, g3⟩ := HPU.out v' w8 hown8 hg8 hat8; have HN := hid g3; obtain ⟨t0, t1, t2, t3⟩ := cells4 g1; obtain ⟨b0, b1, b2, b3⟩ := cells4 g2; have f0 := frozen_blk g2 0; have f1 := frozen_blk g2 1; have f2 := frozen_blk g2 2; have f3 := frozen_blk g2 3; clear g1 g2 g3 hown8 hg8 hat8)
        go_roundg l2.length
        case measure => omega
        case rel =>
          refine ⟨m2, l2, v', [] ++ [(b, .slice ra b.recs.length rc)], Nat.le_refl _, rfl, HN, ⟨HM2.out.base, HM2.out.nth, HM2.out.sum, by have := HMo.out.2.2.2; have := HN2.out; simp at this ⊢; omega⟩, ?_⟩
          obtain ⟨f, hf, hw⟩ := HWk.out
          cases f with
          | zero => omega
          | succ f =>
            refine ⟨f, by omega, ?_⟩
            have hem : (!([] ++ [(b, Value.slice ra b.recs.length rc)]).isEmpty) = true := by first | rfl | (cases ps <;> rfl)
            rw [hem, ← hw]
            conv => rhs; unfold readLs
            rw [HS.out]
            simp [HNE.out]
      · have hp0' : (0 : Int) < (ps.length : Int) := by omega
        cases hD : decide (most < (m2.at_ : Int) - (R.1.at_ : Int)) with
        | true =>
          have hD' : most < (m2.at_ : Int) - (R.1.at_ : Int) := by simpa using hD
          have HNE : Hid ((!ps.isEmpty && decide (most < (m2.at_ : Int) - (R.1.at_ : Int))) = true) := by show _ = _; cases ps with | nil => simp at hp0 | cons p r => simpa using hD
          go_wp2_with fail
          refine (H42.out _).mono ?_
          rintro e w6 ⟨hb6, _, he⟩
          obtain ⟨rv, rfl, hrec, hro⟩ := he _ _ _ HS.out
          obtain ⟨ra, rc, rfl, _⟩ := hrec.shape
          have HQ := hid (And.intro hb6 (And.intro hrec hro))
          have hs6 := hb6.size
          have hb7 : Below w6.heap.size w6 ((w6.alloc (.cells #[.int .i64 b.base, .int .i64 b.epoch, .int .i64 b.pid, .int .i64 b.pidEpoch, .int .i64 b.seq, .slice ra b.recs.length rc] 34)).alloc (.cells #[.int .i64 (m2.base : Int), .int .i64 (m2.at_ : Int), .int .i64 (m2.nth : Int), .string (strOf l2)] 83)) := ((Below.refl _ _).alloc (Nat.le_refl _) _).alloc (by simp) _
          have HT7 : Hid (((w6.alloc (.cells #[.int .i64 b.base, .int .i64 b.epoch, .int .i64 b.pid, .int .i64 b.pidEpoch, .int .i64 b.seq, .slice ra b.recs.length rc] 34)).alloc (.cells #[.int .i64 (m2.base : Int), .int .i64 (m2.at_ : Int), .int .i64 (m2.nth : Int), .string (strOf l2)] 83)).heap[w6.heap.size + 1]? = some (.cells #[.int .i64 (m2.base : Int), .int .i64 (m2.at_ : Int), .int .i64 (m2.nth : Int), .string (strOf l2)] 83)) := by have h := heap_alloc_new (w6.alloc (.cells #[.int .i64 b.base, .int .i64 b.epoch, .int .i64 b.pid, .int .i64 b.pidEpoch, .int .i64 b.seq, .slice ra b.recs.length rc] 34)) (.cells #[.int .i64 (m2.base : Int), .int .i64 (m2.at_ : Int), .int .i64 (m2.nth : Int), .string (strOf l2)] 83); rw [show (w6.alloc (.cells #[.int .i64 b.base, .int .i64 b.epoch, .int .i64 b.pid, .int .i64 b.pidEpoch, .int .i64 b.seq, .slice ra b.recs.length rc] 34)).heap.size = w6.heap.size + 1 by simp] at h; exact h
          have HY7 : Hid (((w6.alloc (.cells #[.int .i64 b.base, .int .i64 b.epoch, .int .i64 b.pid, .int .i64 b.pidEpoch, .int .i64 b.seq, .slice ra b.recs.length rc] 34)).alloc (.cells #[.int .i64 (m2.base : Int), .int .i64 (m2.at_ : Int), .int .i64 (m2.nth : Int), .string (strOf l2)] 83)).heap[w6.heap.size]? = some (.cells #[.int .i64 b.base, .int .i64 b.epoch, .int .i64 b.pid, .int .i64 b.pidEpoch, .int .i64 b.seq, .slice ra b.recs.length rc] 34)) := (Below.heap_alloc _ _ _ (by simp)).trans (heap_alloc_new w6 (.cells #[.int .i64 b.base, .int .i64 b.epoch, .int .i64 b.pid, .int .i64 b.pidEpoch, .int .i64 b.seq, .slice ra b.recs.length rc] 34))
          have HD7 := hid ((HD.out.under hb6).under hb7)
          clear hrec hro he b0 b1 b2 b3
          obtain ⟨t0, t1, t2, t3⟩ := cells4 HT7.out
          have y0 := cell_at HY7.out (j := 0) rfl
          have y1 := cell_at HY7.out (j := 1) rfl
          have y2 := cell_at HY7.out (j := 2) rfl
          have y3 := cell_at HY7.out (j := 3) rfl
          have y4 := cell_at HY7.out (j := 4) rfl
          have y5 := cell_at HY7.out (j := 5) rfl
          clear hb6 hb7
          go_wp2_with fail
          go_ret
          refine ⟨R, ps, _, HR.out, rfl, HD7.out.bl, ?_, HD7.out.below⟩
          rw [HRR.out]
          obtain ⟨f, hf, hw⟩ := HWk.out
          cases f with
          | zero => omega
          | succ f => rw [← hw]; unfold readLs; rw [HS.out]; simp [HNE.out]
        | false =>
          have hD' : ¬ most < (m2.at_ : Int) - (R.1.at_ : Int) := by simpa using hD
          have HNE : Hid ((!ps.isEmpty && decide (most < (m2.at_ : Int) - (R.1.at_ : Int))) = false) := by show _ = _; rw [hD]; simp
          go_wp2_with fail
          refine (H42.out _).mono ?_
          rintro e w6 ⟨hb6, _, he⟩
          obtain ⟨rv, rfl, hrec, hro⟩ := he _ _ _ HS.out
          obtain ⟨ra, rc, rfl, _⟩ := hrec.shape
          have HQ := hid (And.intro hb6 (And.intro hrec hro))
          have hs6 := hb6.size
          have hb7 : Below w6.heap.size w6 ((w6.alloc (.cells #[.int .i64 b.base, .int .i64 b.epoch, .int .i64 b.pid, .int .i64 b.pidEpoch, .int .i64 b.seq, .slice ra b.recs.length rc] 34)).alloc (.cells #[.int .i64 (m2.base : Int), .int .i64 (m2.at_ : Int), .int .i64 (m2.nth : Int), .string (strOf l2)] 83)) := ((Below.refl _ _).alloc (Nat.le_refl _) _).alloc (by simp) _
          have HT7 : Hid (((w6.alloc (.cells #[.int .i64 b.base, .int .i64 b.epoch, .int .i64 b.pid, .int .i64 b.pidEpoch, .int .i64 b.seq, .slice ra b.recs.length rc] 34)).alloc (.cells #[.int .i64 (m2.base : Int), .int .i64 (m2.at_ : Int), .int .i64 (m2.nth : Int), .string (strOf l2)] 83)).heap[w6.heap.size + 1]? = some (.cells #[.int .i64 (m2.base : Int), .int .i64 (m2.at_ : Int), .int .i64 (m2.nth : Int), .string (strOf l2)] 83)) := by have h := heap_alloc_new (w6.alloc (.cells #[.int .i64 b.base, .int .i64 b.epoch, .int .i64 b.pid, .int .i64 b.pidEpoch, .int .i64 b.seq, .slice ra b.recs.length rc] 34)) (.cells #[.int .i64 (m2.base : Int), .int .i64 (m2.at_ : Int), .int .i64 (m2.nth : Int), .string (strOf l2)] 83); rw [show (w6.alloc (.cells #[.int .i64 b.base, .int .i64 b.epoch, .int .i64 b.pid, .int .i64 b.pidEpoch, .int .i64 b.seq, .slice ra b.recs.length rc] 34)).heap.size = w6.heap.size + 1 by simp] at h; exact h
          have HY7 : Hid (((w6.alloc (.cells #[.int .i64 b.base, .int .i64 b.epoch, .int .i64 b.pid, .int .i64 b.pidEpoch, .int .i64 b.seq, .slice ra b.recs.length rc] 34)).alloc (.cells #[.int .i64 (m2.base : Int), .int .i64 (m2.at_ : Int), .int .i64 (m2.nth : Int), .string (strOf l2)] 83)).heap[w6.heap.size]? = some (.cells #[.int .i64 b.base, .int .i64 b.epoch, .int .i64 b.pid, .int .i64 b.pidEpoch, .int .i64 b.seq, .slice ra b.recs.length rc] 34)) := (Below.heap_alloc _ _ _ (by simp)).trans (heap_alloc_new w6 (.cells #[.int .i64 b.base, .int .i64 b.epoch, .int .i64 b.pid, .int .i64 b.pidEpoch, .int .i64 b.seq, .slice ra b.recs.length rc] 34))
          have HD7 := hid ((HD.out.under hb6).under hb7)
          clear hrec hro he b0 b1 b2 b3
          obtain ⟨t0, t1, t2, t3⟩ := cells4 HT7.out
          have y0 := cell_at HY7.out (j := 0) rfl
          have y1 := cell_at HY7.out (j := 1) rfl
          have y2 := cell_at HY7.out (j := 2) rfl
          have y3 := cell_at HY7.out (j := 3) rfl
          have y4 := cell_at HY7.out (j := 4) rfl
          have y5 := cell_at HY7.out (j := 5) rfl
          have hb8 : Below w6.heap.size w6 (((w6.alloc (.cells #[.int .i64 b.base, .int .i64 b.epoch, .int .i64 b.pid, .int .i64 b.pidEpoch, .int .i64 b.seq, .slice ra b.recs.length rc] 34)).alloc (.cells #[.int .i64 (m2.base : Int), .int .i64 (m2.at_ : Int), .int .i64 (m2.nth : Int), .string (strOf l2)] 83)).alloc (.cells #[.int .i64 b.base, .int .i64 b.epoch, .int .i64 b.pid, .int .i64 b.pidEpoch, .int .i64 b.seq, .slice ra b.recs.length rc] 34)) := hb7.alloc (by simp; omega) _
          have HW8 := hid hb8
          have HROW : Hid ((((w6.alloc (.cells #[.int .i64 b.base, .int .i64 b.epoch, .int .i64 b.pid, .int .i64 b.pidEpoch, .int .i64 b.seq, .slice ra b.recs.length rc] 34)).alloc (.cells #[.int .i64 (m2.base : Int), .int .i64 (m2.at_ : Int), .int .i64 (m2.nth : Int), .string (strOf l2)] 83)).alloc (.cells #[.int .i64 b.base, .int .i64 b.epoch, .int .i64 b.pid, .int .i64 b.pidEpoch, .int .i64 b.seq, .slice ra b.recs.length rc] 34)).ownsRow w.heap.size 34 6 (.slice so ps.length sc) ps.length (flatB ps)) := ((HD.out.under hb6).under hb8).bl.row
          have HNW : Hid (∀ j u, (bcells b (.slice ra b.recs.length rc))[j]? = some u → (((w6.alloc (.cells #[.int .i64 b.base, .int .i64 b.epoch, .int .i64 b.pid, .int .i64 b.pidEpoch, .int .i64 b.seq, .slice ra b.recs.length rc] 34)).alloc (.cells #[.int .i64 (m2.base : Int), .int .i64 (m2.at_ : Int), .int .i64 (m2.nth : Int), .string (strOf l2)] 83)).alloc (.cells #[.int .i64 b.base, .int .i64 b.epoch, .int .i64 b.pid, .int .i64 b.pidEpoch, .int .i64 b.seq, .slice ra b.recs.length rc] 34)).cell? ((⟨w6.heap.size + 1 + 1, 0, none⟩ : Addr).add j) = some u) := fun j u hu => by
            have hadd : (⟨w6.heap.size + 1 + 1, 0, none⟩ : Addr).add j = ⟨w6.heap.size + 1 + 1, j, none⟩ := by unfold Addr.add; split <;> simp_all
            rw [hadd]
            have hh := heap_alloc_new ((w6.alloc (.cells #[.int .i64 b.base, .int .i64 b.epoch, .int .i64 b.pid, .int .i64 b.pidEpoch, .int .i64 b.seq, .slice ra b.recs.length rc] 34)).alloc (.cells #[.int .i64 (m2.base : Int), .int .i64 (m2.at_ : Int), .int .i64 (m2.nth : Int), .string (strOf l2)] 83)) (.cells #[.int .i64 b.base, .int .i64 b.epoch, .int .i64 b.pid, .int .i64 b.pidEpoch, .int .i64 b.seq, .slice ra b.recs.length rc] 34)
            rw [show ((w6.alloc (.cells #[.int .i64 b.base, .int .i64 b.epoch, .int .i64 b.pid, .int .i64 b.pidEpoch, .int .i64 b.seq, .slice ra b.recs.length rc] 34)).alloc (.cells #[.int .i64 (m2.base : Int), .int .i64 (m2.at_ : Int), .int .i64 (m2.nth : Int), .string (strOf l2)] 83)).heap.size = w6.heap.size + 1 + 1 by simp] at hh
            exact cell_at hh (by simpa [bcells] using hu)
          have HON : Hid (∀ u ∈ bcells b (.slice ra b.recs.length rc), u.oneCell' = true) := by intro u hu; simp [bcells] at hu; rcases hu with rfl | rfl | rfl | rfl | rfl | rfl <;> rfl
          have HPU : Hid (∀ v' w8, w8.ownsRow w.heap.size 34 6 v' (ps.length + 1) (flatB ps ++ bcells b (.slice ra b.recs.length rc)) → (((w6.alloc (.cells #[.int .i64 b.base, .int .i64 b.epoch, .int .i64 b.pid, .int .i64 b.pidEpoch, .int .i64 b.seq, .slice ra b.recs.length rc] 34)).alloc (.cells #[.int .i64 (m2.base : Int), .int .i64 (m2.at_ : Int), .int .i64 (m2.nth : Int), .string (strOf l2)] 83)).alloc (.cells #[.int .i64 b.base, .int .i64 b.epoch, .int .i64 b.pid, .int .i64 b.pidEpoch, .int .i64 b.seq, .slice ra b.recs.length rc] 34)).grownBy w8 (Value.slice so ps.length sc).ownBlock → (v'.ownBlock = (Value.slice so ps.length sc).ownBlock ∨ v'.ownBlock = some (((w6.alloc (.cells #[.int .i64 b.base, .int .i64 b.epoch, .int .i64 b.pid, .int .i64 b.pidEpoch, .int .i64 b.seq, .slice ra b.recs.length rc] 34)).alloc (.cells #[.int .i64 (m2.base : Int), .int .i64 (m2.at_ : Int), .int .i64 (m2.nth : Int), .string (strOf l2)] 83)).alloc (.cells #[.int .i64 b.base, .int .i64 b.epoch, .int .i64 b.pid, .int .i64 b.pidEpoch, .int .i64 b.seq, .slice ra b.recs.length rc] 34)).heap.size) → (w8.heap[w6.heap.size + 1]? = some (.cells #[.int .i64 (m2.base : Int), .int .i64 (m2.at_ : Int), .int .i64 (m2.nth : Int), .string (strOf l2)] 83) ∧ w8.heap[c]? = some (.cells #[.int .i64 (m'.base : Int), .int .i64 (m'.at_ : Int), .int .i64 (m'.nth : Int), .string (strOf l')] 83)) ∧ RdAt w ((((w8.setCell ⟨c, 0, none⟩ (.int .i64 (m2.base : Int))).setCell ⟨c, 1, none⟩ (.int .i64 (m2.at_ : Int))).setCell ⟨c, 2, none⟩ (.int .i64 (m2.nth : Int))).setCell ⟨c, 3, none⟩ (.string (strOf l2))) c m2 l2 v' (ps ++ [(b, .slice ra b.recs.length rc)])) := fun v' w8 g1 g2 g3 => by
            have hz := HD.out.push HQ.out.1 b _ HQ.out.2.1 (stepL_recs HS.out) HQ.out.2.2 (((w6.alloc (.cells #[.int .i64 b.base, .int .i64 b.epoch, .int .i64 b.pid, .int .i64 b.pidEpoch, .int .i64 b.seq, .slice ra b.recs.length rc] 34)).alloc (.cells #[.int .i64 (m2.base : Int), .int .i64 (m2.at_ : Int), .int .i64 (m2.nth : Int), .string (strOf l2)] 83)).alloc (.cells #[.int .i64 b.base, .int .i64 b.epoch, .int .i64 b.pid, .int .i64 b.pidEpoch, .int .i64 b.seq, .slice ra b.recs.length rc] 34)) HW8.out g1 g2 g3
            refine ⟨⟨(hz.1 (w6.heap.size + 1) (by simp) (.inl (by omega))).trans ?_, (hz.1 c (by simp; omega) (.inr rfl)).trans ?_⟩, hz.2 m2 l2⟩
            · rw [Below.heap_alloc _ _ _ (by simp)]; exact HT7.out
            · exact ((HD.out.under HQ.out.1).under HW8.out).box
          have hpl : ps.length ≤ 4096 := by have := HMo.out.2.2.2; have := HMo.out.2.1; omega
          clear hb6 hb7 hb8
          generalize hF : flatB ps = F at *
          clear hF
          go_wp2_with (at_builtin; refine wpList_append_own_at _ rfl _ _ 31 rfl w.heap.size 34 i0 _ 6 64 Try.underlying31 hi0 hz0 hz1 hz2 rfl (by decide) _ ps.length F rfl HROW.out ⟨w6.heap.size + 1 + 1, 0, none⟩ 1 1 (bcells b (.slice ra b.recs.length rc)) rfl rfl HNW.out HON.out (by unfold maxLen; omega) (by omega) (by simp; omega) ?_; intro v' w8 hown8 hg8 _ hat8; obtain ⟨⟨g1, g2⟩, g3⟩ := HPU.out v' w8 hown8 hg8 hat8; have HN := hid g3; obtain ⟨t0, t1, t2, t3⟩ := cells4 g1; obtain ⟨b0, b1, b2, b3⟩ := cells4 g2; have f0 := frozen_blk g2 0; have f1 := frozen_blk g2 1; have f2 := frozen_blk g2 2; have f3 := frozen_blk g2 3; clear g1 g2 g3 hown8 hg8 hat8)
          go_roundg l2.length
          case measure => omega
          case rel =>
            refine ⟨m2, l2, v', ps ++ [(b, .slice ra b.recs.length rc)], Nat.le_refl _, rfl, HN, ⟨HM2.out.base, HM2.out.nth, HM2.out.sum, by have := HMo.out.2.2.2; have := HN2.out; simp at this ⊢; omega⟩, ?_⟩
            obtain ⟨f, hf, hw⟩ := HWk.out
            cases f with
            | zero => omega
            | succ f =>
              refine ⟨f, by omega, ?_⟩
              have hem : (!(ps ++ [(b, Value.slice ra b.recs.length rc)]).isEmpty) = true := by first | rfl | (cases ps <;> rfl)
              rw [hem, ← hw]
              conv => rhs; unfold readLs
              rw [HS.out]
              simp [HNE.out]
end Go.Proofs.Ytlgaianlkbaedaa

