/- SegmentCuts. -/
import Derived.Test.YtlgaianlkbaedaaHL3
import Derived.BigQuiet
namespace Go.Proofs.Ytlgaianlkbaedaa
open Go.RowKit Go.Maps Go.Sort
set_option maxRecDepth 100000
set_option linter.unusedSimpArgs false
set_option linter.unusedVariables false

/-- What is left behind a cut. -/
structure CutN (bs : List Bat) (off : Int) (n : Nat) : Prop where
  le : n ≤ bs.length
  behind : n < bs.length → off < ((endM ⟨0, 0, 0⟩ (bs.take (n + 1))).base : Int)
  ahead : ∀ j, 0 < j → j ≤ n → ((endM ⟨0, 0, 0⟩ (bs.take j)).base : Int) ≤ off
/-- The end of a batch of the row that was read, held against the offset. -/
theorem CutN.at_ {bs : List Bat} {off : Int} {n : Nat} (h : CutN bs off n) (hF : Fits ⟨0, 0, 0⟩ bs) {ps : List (Bat × Value)} (e : ps.map Prod.fst = bs) (k : Nat) (hk : k ≤ n) (hl : k < ps.length) : (k < n → (ps[k]'hl).1.base + ((ps[k]'hl).1.recs.length : Int) ≤ off) ∧ (k = n → off < (ps[k]'hl).1.base + ((ps[k]'hl).1.recs.length : Int)) ∧ 0 ≤ (ps[k]'hl).1.base ∧ (ps[k]'hl).1.base + ((ps[k]'hl).1.recs.length : Int) ≤ 1000000000 := by
  have hll : ps.length = bs.length := by rw [← e, List.length_map]
  have hb : bs[k]? = some (ps[k]'hl).1 := by rw [← e, List.getElem?_map, List.getElem?_eq_getElem hl]; rfl
  obtain ⟨f1, f2, f3, f4⟩ := fits_at bs _ hF k _ hb
  have hbd := (fits_bound (bs.take (k + 1)) _ (fits_take bs _ (k + 1) hF) (by decide) (Nat.zero_le _)).1
  have h2 := h.behind
  have h3 := h.ahead
  rw [f1]
  refine ⟨fun hlt => ?_, fun he => ?_, by omega, by omega⟩
  · have := h3 (k + 1) (by omega) (by omega)
    omega
  · subst he
    have := h2 (by omega)
    omega
theorem grown_below2 {B : Nat} {w W w' : World} {r : Option Nat} (h : Below B w W) (hB : B ≤ w.heap.size) (hg : W.grownBy w' r) (hr : ∀ k, r = some k → B ≤ k) : Below B w w' := by
  have := h.size
  have := hg.size
  refine ⟨hg.os.trans h.os, hg.tape.trans h.tape, hg.output.trans h.output, by omega, fun k hk => ?_⟩
  rw [hg.block k (by omega) (fun e => by have := hr k e.symm; omega)]
  exact h.block k hk
/-- A copy of the beginning of a row. -/
theorem copy_row {w11 w13 : World} {A : Nat} {Y : Nat → Prop} {o : Option Addr} {c k : Nat} {ps : List (Bat × Value)} {v1 : Value} (hr : RX w11 A Y (.slice o ps.length c) ps) (hk : k ≤ ps.length) (hA : A ≤ w11.heap.size) (hown : w13.ownsRow A 34 6 v1 k (flatB (ps.take k))) (hg : (w11.alloc (.cells #[] 34)).grownBy w13 (some w11.heap.size)) (hat : v1.ownBlock = some w11.heap.size ∨ v1.ownBlock = some (w11.alloc (.cells #[] 34)).heap.size) : BL w13 A v1 (ps.take k) := by
  have hz : (w11.alloc (.cells #[] 34)).heap.size = w11.heap.size + 1 := by simp
  have hgs := hg.size
  have key : ∀ q, q < w11.heap.size → w13.heap[q]? = w11.heap[q]? := fun q hq => by
    rw [hg.block q (by omega) (fun e => by cases e; omega), Below.heap_alloc _ _ _ hq]
  have hl : (ps.take k).length = k := by rw [List.length_take]; omega
  refine ⟨by rw [hl]; exact hown, fun p hp => ?_, fun p hp q hq => ?_⟩
  · have hp' := List.mem_of_mem_take hp
    exact (hr.bl.recs p hp').off (fun q hq => key q (hr.bl.off p hp' q hq).2.1) (by omega)
  · have h1 := hr.bl.off p (List.mem_of_mem_take hp) q hq
    refine ⟨h1.1, by omega, fun e => ?_⟩
    rcases hat with ha | ha
    · rw [ha] at e; cases e; omega
    · rw [ha, hz] at e; cases e; omega
theorem flatB_one {w : World} : ∀ (ps : List (Bat × Value)), (∀ p ∈ ps, Recs w p.2 p.1.recs) → ∀ u ∈ flatB ps, u.oneCell' = true
  | [], _, u, hu => by cases hu
  | p :: r, h, u, hu => by
    rcases List.mem_append.1 (show u ∈ bcells p.1 p.2 ++ flatB r from hu) with hu | hu
    · obtain ⟨o, c, e, _⟩ := (h p (List.mem_cons_self ..)).shape
      rw [e] at hu
      simp [bcells] at hu
      rcases hu with rfl | rfl | rfl | rfl | rfl | rfl <;> rfl
    · exact flatB_one r (fun x hx => h x (List.mem_cons_of_mem _ hx)) u hu
/-- The cells of a row's beginning, in a world with one block more. -/
theorem RX.cells {w : World} {A : Nat} {X : Nat → Prop} {g c : Nat} {ps : List (Bat × Value)} (h : RX w A X (.slice (some ⟨g, 0, none⟩) ps.length c) ps) (k : Nat) (hk : k ≤ ps.length) (O : Obj) : ∀ j u, (flatB (ps.take k))[j]? = some u → (w.alloc O).cell? ((⟨g, 0, none⟩ : Addr).add j) = some u := fun j u hu => by
  have hl : (ps.take k).length = k := by rw [List.length_take]; omega
  have h1 := (h.take k hk).bl.row
  rw [hl] at h1
  have h2 := h1.cells (g := g) rfl j u hu
  have hlt := World.block_lt_of_cell? w _ h2
  rw [← h2]
  exact World.cell?_of_block (Below.heap_alloc _ _ _ hlt)
theorem BL.shape3 {w : World} {A v ps} (h : BL w A v ps) : ∃ o c, v = .slice o ps.length c ∧ ((o = none ∧ ps.length = 0 ∧ c = 0) ∨ ∃ g, o = some ⟨g, 0, none⟩) := by
  obtain ⟨_, ⟨e, hn⟩ | ⟨g, cap, cur, e, _⟩⟩ := h.row
  · exact ⟨none, 0, by rw [e, hn], .inl ⟨rfl, hn, rfl⟩⟩
  · exact ⟨_, _, e, .inr ⟨g, rfl⟩⟩
/-- One more behind a copy. -/
theorem last_row {w11 w13 w15 : World} {A : Nat} {v1 v2 : Value} {ps' : List (Bat × Value)} {b : Bat} {rvb : Value} {O : Obj} (hl : BL w13 A v1 ps') (hv : ∀ z, v1.ownBlock = some z → w11.heap.size ≤ z) (hb : Below w11.heap.size w11 w13) (hr : Recs w11 rvb b.recs) (hlt : ∀ z, rvb.ownBlock = some z → A ≤ z ∧ z < w11.heap.size) (hown : w15.ownsRow A 34 6 v2 (ps'.length + 1) (flatB ps' ++ bcells b rvb)) (hg : (w13.alloc O).grownBy w15 v1.ownBlock) (hat : v2.ownBlock = v1.ownBlock ∨ v2.ownBlock = some (w13.alloc O).heap.size) : BL w15 A v2 (ps' ++ [(b, rvb)]) ∧ Below w11.heap.size w11 w15 := by
  have hbz := hb.size
  have hba : Below w11.heap.size w11 (w13.alloc O) := hb.alloc hbz O
  have hbs : Below w13.heap.size w13 (w13.alloc O) := (Below.refl _ _).alloc (Nat.le_refl _) O
  refine ⟨(hl.under hbs).push b rvb (hr.under hba) (fun z hz => ?_) hown hg hat, grown_below2 hba (Nat.le_refl _) hg hv⟩
  have h1 := hlt z hz
  have h2 := hba.size
  exact ⟨h1.1, by omega, fun e => by have := hv z e; omega⟩
set_option maxHeartbeats 6400000 in
theorem cuts_walk (w : World) (oa : Option Addr) (ks : List Int) (cap : Nat) (hk : Nums w oa ks) (c1 : Int) (hc1 : -9223372036854775808 ≤ c1 ∧ c1 ≤ 9223372036854775807) (c2 : Int) (hc2 : -9223372036854775808 ≤ c2 ∧ c2 ≤ 9223372036854775807) :
    Calls Try.prog 6 #[.slice oa ks.length cap, .int .i64 c1, .int .i64 c2] w fun e w' => e = .returned (.bool true) ∧ Below w.heap.size w w' := by
  have HK := hid hk
  have HC1 := hid hc1
  obtain ⟨rm, nm, hrm, hr0, hr9, hn1, hn9, hpm⟩ := pick_one c2 9 hc2.1 hc2.2 (by decide) (by decide) 9 rfl
  have HPM := hid hpm
  clear hk hc1 hc2 hpm
  go_enter Try.func6, Try.ntmps6
  go_wp2_with (go_at_call 8; refine (shown_any w).mono ?_; rintro e w1 ⟨rfl, hb1⟩; have HB1 := hid hb1; clear hb1)
  have H21 : Hid (Calls Try.prog 21 #[.int .i64 0, .slice oa ks.length cap] w1 fun e w' => ∃ q a bs, e = .returned (.pointer (some ⟨q, 0, none⟩)) ∧ bs.length = min ks.length 60 ∧ Smalls bs ∧ SO w1 w' (fun _ => False) q a 0 2000000 bs 0) := filled_any w1 0 (by decide) oa ks cap (HK.out.under HB1.out)
  refine H21.out.mono ?_
  rintro e w2 ⟨q, a, bs, rfl, hlen, hsm, hso⟩
  have HSO := hid (hso.rebase HB1.out)
  have HSM := hid hsm
  have hbl : bs.length ≤ 60 := by omega
  have hend := hsm.ends 0
  have hfile := hsm.file
  clear hso hsm hlen H21 HB1 HK
  have H18 : Hid (Calls Try.prog 18 #[.pointer (some ⟨q, 0, none⟩), .int .i64 0, .int .i64 10000000] w2 fun e w' => ∃ ps rv, e = .returned rv ∧ BL w' w2.heap.size rv ps ∧ ps.map Prod.fst = bs ∧ Below w2.heap.size w2 w') := HSO.out.readAll 10000000 (by omega) 0 rfl
  go_wp2_with fail
  refine H18.out.mono ?_
  rintro e w3 ⟨ps, rv, rfl, hbl3, hps, hb3⟩
  obtain ⟨X, hxs, hxr⟩ : ∃ X : Nat → Prop, SO w w3 X q a 0 2000000 bs 0 ∧ RX w3 w.heap.size X rv ps := ⟨_, HSO.out.more hb3, RX.of hbl3 HSO.out.below.size (fun k h1 h2 => .inr ⟨h1, h2⟩)⟩
  have HXS := hid hxs
  have HXR := hid hxr
  have HPS := hid hps
  have HPL : Hid (ps.length = bs.length) := hid (by rw [← hps, List.length_map])
  have HF := hid HSO.out.fits
  clear hbl3 hps hb3 hxs hxr H18 HSO
  obtain ⟨r1, hr1, hp1⟩ := pick_nat c1 ((endM ⟨0, 0, 0⟩ bs).base + 3) HC1.out (by omega) (by omega) (((endM ⟨0, 0, 0⟩ bs).base : Int) + 3) (by omega)
  have HP1 := hid hp1
  have HN : Hid (Calls Try.prog 12 #[.pointer (some ⟨q, 0, none⟩)] w3 fun e w' => e = .returned (.int .i64 ((endM ⟨0, 0, 0⟩ bs).base : Int)) ∧ w' = w3) := HXS.out.next
  clear hp1 HC1
  generalize (endM ⟨0, 0, 0⟩ bs).base = NX at *
  go_wp2_with fail
  refine HN.out.mono ?_
  rintro e w4 ⟨rfl, rfl⟩
  go_wp2_with fail
  refine (HP1.out _).mono ?_
  rintro e w5 ⟨rfl, rfl⟩
  have H22 : Hid (Calls Try.prog 22 #[.pointer (some ⟨q, 0, none⟩), .int .i64 (r1 : Int)] w5 _) := HXS.out.cut (r1 : Int) (by omega)
  go_wp2_with fail
  refine H22.out.mono ?_
  rintro e w6 ⟨rfl, n, sf, hn1', hn2', hn3', hs6, hk6, hz6⟩
  have HCN : Hid (CutN bs (r1 : Int) n) := ⟨hn1', hn2', hn3'⟩
  have HS6 := hid hs6
  have HR6 := hid (HXR.out.kept hk6 hz6)
  clear hn1' hn2' hn3' hs6 hk6 hz6 H22 HN HP1 HXS HXR
  obtain ⟨o1, cp1, rfl, hsh⟩ := HR6.out.bl.shape3
  have hp60 : ps.length ≤ 60 := by have := HPL.out; omega
  have hnl0 : n ≤ ps.length := by have := HCN.out.le; have := HPL.out; omega
  rcases hsh with ⟨rfl, hl0, rfl⟩ | ⟨g1, rfl⟩
  · obtain rfl : ps = [] := List.eq_nil_of_length_eq_zero hl0
    obtain rfl : bs = [] := HPS.out.symm
    obtain rfl : n = 0 := by simpa using hnl0
    have hn0 : (([] : List (Bat × Value)).length) = 0 := rfl
    clear hl0 hn0 hnl0 hp60
    go_wp2_with fail
    go_loopg [10] 0 (fun kx s10 wr => s10 = .int .i64 0 ∧ Hid (Below w6.heap.size w6 wr))
    case atStart => exact ⟨rfl, Below.refl _ _⟩
    case round =>
      obtain ⟨rfl, HB⟩ := hrel
      · skip
        all_goals
          go_wp2_with fail
          try go_quiet (fail)
          skip
          have H18 : Hid (∀ W, Below w6.heap.size w6 W → Calls Try.prog 18 #[.pointer (some ⟨q, 0, none⟩), .int .i64 0, .int .i64 10000000] W fun e w' => ∃ ps3 rv3, e = .returned rv3 ∧ BL w' W.heap.size rv3 ps3 ∧ ps3.map Prod.fst = ([] : List Bat).take (0 : Nat) ∧ Below W.heap.size W w') := fun W hb => (HS6.out.under hb).readAll 10000000 (by have := fileL_take_le ([] : List Bat) (0 : Nat); omega) 0 rfl
          have H19 : Hid (∀ W A rv3 ps3, Below w6.heap.size w6 W → BL W A rv3 ps3 → ps3.map Prod.fst = ([] : List Bat).take (0 : Nat) → Calls Try.prog 19 #[rv3, _] W fun e w' => e = .returned (.bool true) ∧ Below W.heap.size W w') := fun W A rv3 ps3 hb h3 he => same_yes h3 ((HR6.out.take (0 : Nat) (Nat.zero_le _)).under hb).bl (by rw [he, List.map_take, HPS.out]) (by have h7 := congrArg List.length he; rw [List.length_map] at h7; rw [h7]; simp)
          go_wp2_with fail
          go_region_held3 (fun _ => True) (trivial)
            (first
            | (go_at_call 18; refine (H18.out _ (by first | exact HB.out | exact below_drewN HB.out _ | exact (below_drewN HB.out _).drew)).mono ?_; rintro e w7 ⟨ps3, rv3, rfl, hbl7, hm7, hb7⟩; have HB7 : Hid (Below w6.heap.size w6 w7) := (by first | exact HB.out.trans (hb7.mono HB.out.size) | exact (below_drewN HB.out _).trans (hb7.mono (below_drewN HB.out _).size)); have HL7 := hid hbl7; have HM7 := hid hm7; clear hbl7 hm7 hb7)
            | (go_at_call 19; refine (H19.out _ _ _ _ (by first | exact HB7.out | exact HB7.out.drew) (by first | exact HL7.out | exact HL7.out.under (Below.refl _ _).drew) HM7.out).mono ?_; rintro e w8 ⟨rfl, hb8⟩; have HB8 : Hid (Below w6.heap.size w6 w8) := (by first | exact HB7.out.trans (hb8.mono HB7.out.size) | exact HB7.out.drew.trans (hb8.mono HB7.out.drew.size)); clear hb8)
            | fail)
          all_goals
            have HS8 := hid (HS6.out.under HB8.out)
            have HR8 := hid (HR6.out.under HB8.out)
            have hsm2 : Smalls (([] : List Bat).take (0 : Nat)) := fun b hb => HSM.out b (List.mem_of_mem_take hb)
            have hl2 : (([] : List Bat).take (0 : Nat)).length ≤ 60 := by simp
            have he2 := hsm2.ends 0
            have hf2 := hsm2.file
            have hlen2 := smallB_len (endM ⟨0, 0, 0⟩ (([] : List Bat).take (0 : Nat))).base nm hn1 (by omega) (by omega)
            have HN8 : Hid (Calls Try.prog 12 #[.pointer (some ⟨q, 0, none⟩)] w8 fun e w' => e = .returned (.int .i64 ((endM ⟨0, 0, 0⟩ (([] : List Bat).take (0 : Nat))).base : Int)) ∧ w' = w8) := HS8.out.next
            have H11 : Hid (Calls Try.prog 11 #[.int .i64 ((endM ⟨0, 0, 0⟩ (([] : List Bat).take (0 : Nat))).base : Int), .int .i64 (nm : Int)] w8 fun e w' => ∃ rv, e = .returned (.agg #[.int .i64 ((endM ⟨0, 0, 0⟩ (([] : List Bat).take (0 : Nat))).base : Int), .int .i64 1, .int .i64 0, .int .i64 0, .int .i64 0, rv]) ∧ Recs w' rv (List.replicate nm smallR) ∧ (∀ z, rv.ownBlock = some z → w8.heap.size ≤ z) ∧ Below w8.heap.size w8 w') := small_any w8 _ nm (by omega)
            have hwr : IntKind.i64.wrap (nm : Int) = (nm : Int) := IntWalk.i64_in _ (by omega)
            have H14 : Hid (∀ W X rvb, SO w W X q a 0 2000000 (([] : List Bat).take (0 : Nat)) sf → Recs W rvb (List.replicate nm smallR) → Calls Try.prog 14 #[.pointer (some ⟨q, 0, none⟩), .agg #[.int .i64 ((endM ⟨0, 0, 0⟩ (([] : List Bat).take (0 : Nat))).base : Int), .int .i64 1, .int .i64 0, .int .i64 0, .int .i64 0, rvb]] W fun e w' => e = .returned (.int .i64 0) ∧ SO w w' X q a 0 2000000 (([] : List Bat).take (0 : Nat) ++ [smallB (endM ⟨0, 0, 0⟩ (([] : List Bat).take (0 : Nat))).base nm]) sf ∧ KX X W w' ∧ W.heap.size ≤ w'.heap.size) := fun W X rvb hs hr => hs.append _ rfl nm hn1 (by omega) (by omega) (by omega) rvb hr (by omega)
            have hfz : (fileL (([] : List Bat).take (0 : Nat) ++ [smallB (endM ⟨0, 0, 0⟩ (([] : List Bat).take (0 : Nat))).base nm])).length ≤ 100000 := by rw [fileL_append, List.length_append]; simp only [fileL, List.length_append, List.length_nil]; omega
            have hbb : (endM ⟨0, 0, 0⟩ (([] : List Bat).take (0 : Nat))).base ≤ 2000 := by omega
            clear he2 hf2 hlen2
            have HNB : Hid (smallB (endM ⟨0, 0, 0⟩ (([] : List Bat).take (0 : Nat))).base nm = ⟨((endM ⟨0, 0, 0⟩ (([] : List Bat).take (0 : Nat))).base : Int), 1, 0, 0, 0, List.replicate nm smallR⟩) := rfl
            generalize smallB (endM ⟨0, 0, 0⟩ (([] : List Bat).take (0 : Nat))).base nm = NB at *
            generalize (endM ⟨0, 0, 0⟩ (([] : List Bat).take (0 : Nat))).base = N2 at *
            go_wp2_with fail
            refine HN8.out.mono ?_
            rintro e wa ⟨rfl, rfl⟩
            go_wp2_with fail
            refine (HPM.out _).mono ?_
            rintro e wb ⟨rfl, rfl⟩
            go_wp2_with fail
            refine H11.out.mono ?_
            rintro e w9 ⟨rvb, rfl, hr9, ho9, hb9⟩
            obtain ⟨rba, rbc, hrvb, _⟩ := hr9.shape
            rw [List.length_replicate] at hrvb
            subst hrvb
            have HB9 := hid hb9
            have HR9 := hid hr9
            have HO9 := hid ho9
            clear hr9 ho9 hb9 H11 HN8
            go_wp2_with fail
            have hbW : Below wb.heap.size wb (w9.alloc (.cells #[.int .i64 (N2 : Int), .int .i64 1, .int .i64 0, .int .i64 0, .int .i64 0, .slice rba nm rbc] 34)) := HB9.out.alloc HB9.out.size _
            have hbox := heap_alloc_new w9 (.cells #[.int .i64 (N2 : Int), .int .i64 1, .int .i64 0, .int .i64 0, .int .i64 0, .slice rba nm rbc] 34)
            have hr9' := HR9.out.under ((Below.refl _ _).alloc (Nat.le_refl _) (.cells #[.int .i64 (N2 : Int), .int .i64 1, .int .i64 0, .int .i64 0, .int .i64 0, .slice rba nm rbc] 34))
            have hz9 : (w9.alloc (.cells #[.int .i64 (N2 : Int), .int .i64 1, .int .i64 0, .int .i64 0, .int .i64 0, .slice rba nm rbc] 34)).heap.size = w9.heap.size + 1 := by simp
            have hs89 := HB9.out.size
            have hwwb : w.heap.size ≤ wb.heap.size := HS8.out.below.size
            generalize w9.alloc (.cells #[.int .i64 (N2 : Int), .int .i64 1, .int .i64 0, .int .i64 0, .int .i64 0, .slice rba nm rbc] 34) = W9 at *
            have HR9' := hid hr9'
            have HBOX := hid hbox
            have HZ9 := hid hz9
            obtain ⟨Y, hsY, hrY, hY⟩ : ∃ Y : Nat → Prop, SO w W9 Y q a 0 2000000 (([] : List Bat).take (0 : Nat)) sf ∧ RX W9 w.heap.size Y _ ([] : List (Bat × Value)) ∧ ∀ z, wb.heap.size ≤ z → z < W9.heap.size → Y z := ⟨_, HS8.out.more hbW, (HR8.out.under hbW).wide (fun z hz => .inl hz), fun z h1 h2 => .inr ⟨h1, h2⟩⟩
            have HRY := hid hrY
            have HY := hid hY
            have H14' := hid (H14.out _ _ _ hsY hr9')
            clear hsY hrY hY hr9' hbox hbW hz9 H14
            refine H14'.out.mono ?_
            rintro e w10 ⟨rfl, hs10, hk10, hz10⟩
            have HS10 := hid hs10
            have HR10 := hid (HRY.out.kept hk10 hz10)
            have hrb10 : Recs w10 (.slice rba nm rbc) (List.replicate nm smallR) := HR9'.out.off (fun z hz => hk10 z (HY.out z (HO9.out z hz) (by have := HR9'.out.lt (by intro e; have := congrArg List.length e; simp at this; omega) z hz; omega))) hz10
            have hbx10 := (hk10 _ (HY.out w9.heap.size hs89 (by have := HZ9.out; omega))).trans HBOX.out
            have hz10' : w9.heap.size + 1 ≤ w10.heap.size := by have := HZ9.out; omega
            have HX10 := hid (And.intro hrb10 hbx10)
            clear hs10 hk10 hrb10 hbx10 H14' hz10 HBOX HR9' HY HRY
            have H18 : Hid (Calls Try.prog 18 #[.pointer (some ⟨q, 0, none⟩), .int .i64 0, .int .i64 10000000] w10 fun e w' => ∃ ps3 rv3, e = .returned rv3 ∧ BL w' w10.heap.size rv3 ps3 ∧ ps3.map Prod.fst = ([] : List Bat).take (0 : Nat) ++ [NB] ∧ Below w10.heap.size w10 w') := HS10.out.readAll 10000000 (by omega) 0 rfl
            go_wp2_with fail
            refine H18.out.mono ?_
            rintro e w11 ⟨ps4, rv4, rfl, hbl4, hm4, hb11⟩
            have HL4 := hid hbl4
            have HM4 := hid hm4
            have HR11 := hid (HR10.out.under hb11)
            have HX11 : Hid (Recs w11 (.slice rba nm rbc) (List.replicate nm smallR) ∧ w11.heap[w9.heap.size]? = some (.cells #[.int .i64 (N2 : Int), .int .i64 1, .int .i64 0, .int .i64 0, .int .i64 0, .slice rba nm rbc] 34)) := ⟨HX10.out.1.under hb11, (hb11.block _ (by omega)).trans HX10.out.2⟩
            have HB11 := hid (HS10.out.below.trans (hb11.mono HS10.out.below.size))
            have hs11 := hb11.size
            clear hbl4 hm4 hb11 H18 HX10 HR10 HS10
            obtain ⟨i0, hi0, hi1, hi2, hi3⟩ := info34
            have hw11 : w.heap.size ≤ w11.heap.size := HB11.out.size
            have hz11 : (w11.alloc (.cells #[] 34)).heap.size = w11.heap.size + 1 := by simp
            have HROW0 : Hid ((w11.alloc (.cells #[] 34)).ownsRow w.heap.size 34 6 (.slice (some ⟨w11.heap.size, 0, none⟩) 0 0) 0 []) := World.ownsRow_lit w11 #[] 0 hw11 (Nat.zero_le _) rfl
            have HB13 : Hid (Below w11.heap.size w11 (w11.alloc (.cells #[] 34))) := (Below.refl _ _).alloc (Nat.le_refl _) _
            have HL13 : Hid (BL (w11.alloc (.cells #[] 34)) w.heap.size (.slice (some ⟨w11.heap.size, 0, none⟩) 0 0) []) := ⟨HROW0.out, fun p hp => (by cases hp), fun p hp => (by cases hp)⟩
            have HLT : Hid (∀ z, (Value.slice rba nm rbc).ownBlock = some z → w.heap.size ≤ z ∧ z < w11.heap.size) := fun z hz => ⟨by have := HO9.out z hz; omega, HX11.out.1.lt (by intro e; have := congrArg List.length e; simp at this; omega) z hz⟩
            have HLR : Hid (∀ v2 w15, w15.ownsRow w.heap.size 34 6 v2 (0 + 1) ([] ++ [.int .i64 (N2 : Int), .int .i64 1, .int .i64 0, .int .i64 0, .int .i64 0, .slice rba nm rbc]) → ((w11.alloc (.cells #[] 34)).alloc (.cells #[.int .i64 (N2 : Int), .int .i64 1, .int .i64 0, .int .i64 0, .int .i64 0, .slice rba nm rbc] 34)).grownBy w15 (some w11.heap.size) → (v2.ownBlock = some w11.heap.size ∨ v2.ownBlock = some ((w11.alloc (.cells #[] 34)).alloc (.cells #[.int .i64 (N2 : Int), .int .i64 1, .int .i64 0, .int .i64 0, .int .i64 0, .slice rba nm rbc] 34)).heap.size) → BL w15 w.heap.size v2 [(NB, .slice rba nm rbc)] ∧ Below w11.heap.size w11 w15) := fun v2 w15 h4 h5 h6 => last_row (v1 := (.slice (some ⟨w11.heap.size, 0, none⟩) 0 0)) HL13.out (fun z hz => by cases hz; exact Nat.le_refl _) HB13.out (by rw [HNB.out]; exact HX11.out.1) HLT.out (by rw [HNB.out]; exact h4) h5 h6
            have HR13 : Hid (((w11.alloc (.cells #[] 34)).alloc (.cells #[.int .i64 (N2 : Int), .int .i64 1, .int .i64 0, .int .i64 0, .int .i64 0, .slice rba nm rbc] 34)).ownsRow w.heap.size 34 6 (.slice (some ⟨w11.heap.size, 0, none⟩) 0 0) 0 []) := ownsRow_kept HROW0.out (fun z hz => Below.heap_alloc _ _ _ (World.ownsRow.lt HROW0.out z hz).2)
            have HNW1 : Hid (∀ j u, ([.int .i64 (N2 : Int), .int .i64 1, .int .i64 0, .int .i64 0, .int .i64 0, .slice rba nm rbc] : List Value)[j]? = some u → ((w11.alloc (.cells #[] 34)).alloc (.cells #[.int .i64 (N2 : Int), .int .i64 1, .int .i64 0, .int .i64 0, .int .i64 0, .slice rba nm rbc] 34)).cell? ((⟨w11.heap.size + 1, 0, none⟩ : Addr).add j) = some u) := fun j u hu => by
              rw [← hz11]
              have hadd : (⟨(w11.alloc (.cells #[] 34)).heap.size, 0, none⟩ : Addr).add j = ⟨(w11.alloc (.cells #[] 34)).heap.size, j, none⟩ := by unfold Addr.add; split <;> simp_all
              rw [hadd]
              exact cell_at (heap_alloc_new _ _) (by simpa using hu)
            have HON1 : Hid (∀ u ∈ ([.int .i64 (N2 : Int), .int .i64 1, .int .i64 0, .int .i64 0, .int .i64 0, .slice rba nm rbc] : List Value), u.oneCell' = true) := by intro u hu; simp at hu; rcases hu with rfl | rfl | rfl | rfl | rfl | rfl <;> rfl
            have H19 : Hid (∀ w15 v2 ps', BL w15 w.heap.size v2 ps' → ps'.map Prod.fst = ([] : List Bat).take 0 ++ [NB] → Below w11.heap.size w11 w15 → Calls Try.prog 19 #[rv4, v2] w15 fun e w' => e = .returned (.bool true) ∧ Below w15.heap.size w15 w') := fun w15 v2 ps' h1 h2 h3 => same_yes (HL4.out.under h3) h1 (by rw [HM4.out, h2]) (by have := congrArg List.length HM4.out; simp at this; omega)
            have hbx := (HB13.out.block w9.heap.size (by omega)).trans HX11.out.2
            have z0 := cell_at hbx (j := 0) rfl
            have z1 := cell_at hbx (j := 1) rfl
            have z2 := cell_at hbx (j := 2) rfl
            have z3 := cell_at hbx (j := 3) rfl
            have z4 := cell_at hbx (j := 4) rfl
            have z5 := cell_at hbx (j := 5) rfl
            clear hbx
            have HZ11 := hid hz11
            clear hz11
            go_wp2_with (at_builtin; first | (refine wpList_append_own_none rfl _ _ 31 rfl w.heap.size 34 i0 6 Try.underlying31 hi0 _ 0 [] rfl HROW0.out rfl ?_) | (refine wpList_append_own_at _ rfl _ _ 31 rfl w.heap.size 34 i0 _ 6 64 Try.underlying31 hi0 hi1 hi2 hi3 rfl (by decide) _ 0 [] rfl HR13.out ⟨w11.heap.size + 1, 0, none⟩ 1 1 [.int .i64 (N2 : Int), .int .i64 1, .int .i64 0, .int .i64 0, .int .i64 0, .slice rba nm rbc] rfl rfl HNW1.out HON1.out (by unfold maxLen; omega) (by omega) (by simp; omega) ?_; go_loud (intro v2 w15 hown15 hg15 _ hat15); obtain ⟨x1, x2⟩ := HLR.out v2 w15 hown15 hg15 hat15; have HL15 := hid x1; have HB15 := hid x2; clear x1 x2 hown15 hg15 hat15 z0 z1 z2 z3 z4 z5))
            refine (H19.out _ _ _ HL15.out rfl HB15.out).mono ?_
            rintro e w16 ⟨rfl, hb16⟩
            have HB16 := hid (HB11.out.trans ((HB15.out.trans (hb16.mono HB15.out.size)).mono HB11.out.size))
            clear hb16
            go_wp2_with fail
            go_ret
            exact ⟨rfl, HB16.out⟩
  · skip
    go_wp2_with fail
    go_loopg [10] n (fun kx s10 wr => ∃ k : Nat, k ≤ n ∧ n - k ≤ kx ∧ s10 = .int .i64 (k : Int) ∧ Hid (Below w6.heap.size w6 wr))
    case atStart => exact ⟨0, by omega, by omega, rfl, Below.refl _ _⟩
    case round =>
      obtain ⟨k, hkn, hkx, rfl, HB⟩ := hrel
      have hnl : n ≤ ps.length := hnl0
      by_cases hlt : k < n
      · first
        | (exfalso; omega)
        | skip
        all_goals
          have hl : k < ps.length := by omega
          have hl' : (k : Int) < (ps.length : Int) := by omega
          have hk0 : (0 : Int) ≤ (k : Int) := by omega
          have hx : ps[k]? = some (ps[k]'hl) := List.getElem?_eq_getElem hl
          obtain ⟨a0, _, _, _, _, a5⟩ := bat_at (HR6.out.under HB.out).bl.row k _ hx
          obtain ⟨f1, _, f3, f4⟩ := HCN.out.at_ HF.out HPS.out k hkn hl
          obtain ⟨ro', rc', hrs, _⟩ := ((HR6.out.under HB.out).bl.recs _ (List.mem_of_getElem? hx)).shape
          rw [hrs] at a5
          have f1' := f1 hlt
          clear hrs hx f1
          generalize (ps[k]'hl).1.base = Ba at *
          generalize (ps[k]'hl).1.recs.length = La at *
          have cb1 : decide ((k : Int) < (ps.length : Int)) = true := decide_eq_true hl'
          have cb2 : decide (Ba + (La : Int) ≤ (r1 : Int)) = true := decide_eq_true f1'
          have hw : IntKind.i64.wrap (Ba + (La : Int)) = Ba + (La : Int) := IntWalk.i64_in _ (by omega)
          go_wp2_with fail
          go_quiet (fail)
          go_wp2_with fail
          go_roundg (n - (k + 1))
          case measure => omega
          case rel => exact ⟨k + 1, by omega, Nat.le_refl _, by go_num, by first | exact HB | exact below_drewN HB.out _⟩
      · have hkn' : k = n := by omega
        subst hkn'
        rcases Nat.lt_or_ge k ps.length with hl | hl
        all_goals
          first
          | (exfalso; omega)
          | skip
        all_goals
          have hk0 : (0 : Int) ≤ (k : Int) := by omega
          first
          | (have hl' : (k : Int) < (ps.length : Int) := by omega
             have hx : ps[k]? = some (ps[k]'hl) := List.getElem?_eq_getElem hl
             obtain ⟨a0, _, _, _, _, a5⟩ := bat_at (HR6.out.under HB.out).bl.row k _ hx
             obtain ⟨_, f2, f3, f4⟩ := HCN.out.at_ HF.out HPS.out k hkn hl
             obtain ⟨ro', rc', hrs, _⟩ := ((HR6.out.under HB.out).bl.recs _ (List.mem_of_getElem? hx)).shape
             rw [hrs] at a5
             have f2' := f2 rfl
             clear hrs hx f2
             generalize (ps[k]'hl).1.base = Ba at *
             generalize (ps[k]'hl).1.recs.length = La at *
             have cb1 : decide ((k : Int) < (ps.length : Int)) = true := decide_eq_true hl'
             have cb2 : decide (Ba + (La : Int) ≤ (r1 : Int)) = false := decide_eq_false (by omega)
             have hw : IntKind.i64.wrap (Ba + (La : Int)) = Ba + (La : Int) := IntWalk.i64_in _ (by omega)
             go_wp2_with fail
             go_quiet (fail)
             clear f2' f3 f4 a0 a5)
          | (have hl' : ¬ (k : Int) < (ps.length : Int) := by omega
             have cb1 : decide ((k : Int) < (ps.length : Int)) = false := decide_eq_false hl'
             have cbn : decide (k < ps.length) = false := decide_eq_false (by omega)
             go_wp2_with fail
             go_quiet (fail))
          have hcap : (k : Int) ≤ (cp1 : Int) := by have := HR6.out.bl.cap; omega
          have H18 : Hid (∀ W, Below w6.heap.size w6 W → Calls Try.prog 18 #[.pointer (some ⟨q, 0, none⟩), .int .i64 0, .int .i64 10000000] W fun e w' => ∃ ps3 rv3, e = .returned rv3 ∧ BL w' W.heap.size rv3 ps3 ∧ ps3.map Prod.fst = bs.take k ∧ Below W.heap.size W w') := fun W hb => (HS6.out.under hb).readAll 10000000 (by have := fileL_take_le bs k; omega) 0 rfl
          have H19 : Hid (∀ W A rv3 ps3, Below w6.heap.size w6 W → BL W A rv3 ps3 → ps3.map Prod.fst = bs.take k → Calls Try.prog 19 #[rv3, _] W fun e w' => e = .returned (.bool true) ∧ Below W.heap.size W w') := fun W A rv3 ps3 hb h3 he => same_yes h3 ((HR6.out.take k (by omega)).under hb).bl (by rw [he, List.map_take, HPS.out]) (by have := congrArg List.length he; simp at this; omega)
          go_wp2_with fail
          go_region_held3 (fun _ => True) (trivial)
            (first
            | (go_at_call 18; refine (H18.out _ (by first | exact HB.out | exact below_drewN HB.out _ | exact (below_drewN HB.out _).drew)).mono ?_; rintro e w7 ⟨ps3, rv3, rfl, hbl7, hm7, hb7⟩; have HB7 : Hid (Below w6.heap.size w6 w7) := (by first | exact HB.out.trans (hb7.mono HB.out.size) | exact (below_drewN HB.out _).trans (hb7.mono (below_drewN HB.out _).size)); have HL7 := hid hbl7; have HM7 := hid hm7; clear hbl7 hm7 hb7)
            | (go_at_call 19; refine (H19.out _ _ _ _ (by first | exact HB7.out | exact HB7.out.drew) (by first | exact HL7.out | exact HL7.out.under (Below.refl _ _).drew) HM7.out).mono ?_; rintro e w8 ⟨rfl, hb8⟩; have HB8 : Hid (Below w6.heap.size w6 w8) := (by first | exact HB7.out.trans (hb8.mono HB7.out.size) | exact HB7.out.drew.trans (hb8.mono HB7.out.drew.size)); clear hb8)
            | fail)
          all_goals
            have HS8 := hid (HS6.out.under HB8.out)
            have HR8 := hid (HR6.out.under HB8.out)
            have hsm2 : Smalls (bs.take k) := fun b hb => HSM.out b (List.mem_of_mem_take hb)
            have hl2 : (bs.take k).length ≤ 60 := by rw [List.length_take]; omega
            have he2 := hsm2.ends 0
            have hf2 := hsm2.file
            have hlen2 := smallB_len (endM ⟨0, 0, 0⟩ (bs.take k)).base nm hn1 (by omega) (by omega)
            have HN8 : Hid (Calls Try.prog 12 #[.pointer (some ⟨q, 0, none⟩)] w8 fun e w' => e = .returned (.int .i64 ((endM ⟨0, 0, 0⟩ (bs.take k)).base : Int)) ∧ w' = w8) := HS8.out.next
            have H11 : Hid (Calls Try.prog 11 #[.int .i64 ((endM ⟨0, 0, 0⟩ (bs.take k)).base : Int), .int .i64 (nm : Int)] w8 fun e w' => ∃ rv, e = .returned (.agg #[.int .i64 ((endM ⟨0, 0, 0⟩ (bs.take k)).base : Int), .int .i64 1, .int .i64 0, .int .i64 0, .int .i64 0, rv]) ∧ Recs w' rv (List.replicate nm smallR) ∧ (∀ k, rv.ownBlock = some k → w8.heap.size ≤ k) ∧ Below w8.heap.size w8 w') := small_any w8 _ nm (by omega)
            have hwr : IntKind.i64.wrap (nm : Int) = (nm : Int) := IntWalk.i64_in _ (by omega)
            have H14 : Hid (∀ W X rvb, SO w W X q a 0 2000000 (bs.take k) sf → Recs W rvb (List.replicate nm smallR) → Calls Try.prog 14 #[.pointer (some ⟨q, 0, none⟩), .agg #[.int .i64 ((endM ⟨0, 0, 0⟩ (bs.take k)).base : Int), .int .i64 1, .int .i64 0, .int .i64 0, .int .i64 0, rvb]] W fun e w' => e = .returned (.int .i64 0) ∧ SO w w' X q a 0 2000000 (bs.take k ++ [smallB (endM ⟨0, 0, 0⟩ (bs.take k)).base nm]) sf ∧ KX X W w' ∧ W.heap.size ≤ w'.heap.size) := fun W X rvb hs hr => hs.append _ rfl nm hn1 (by omega) (by omega) (by omega) rvb hr (by omega)
            have hfz : (fileL (bs.take k ++ [smallB (endM ⟨0, 0, 0⟩ (bs.take k)).base nm])).length ≤ 100000 := by rw [fileL_append, List.length_append]; simp only [fileL, List.length_append, List.length_nil]; omega
            have hbb : (endM ⟨0, 0, 0⟩ (bs.take k)).base ≤ 2000 := by omega
            clear he2 hf2 hlen2
            have HNB : Hid (smallB (endM ⟨0, 0, 0⟩ (bs.take k)).base nm = ⟨((endM ⟨0, 0, 0⟩ (bs.take k)).base : Int), 1, 0, 0, 0, List.replicate nm smallR⟩) := rfl
            generalize smallB (endM ⟨0, 0, 0⟩ (bs.take k)).base nm = NB at *
            generalize (endM ⟨0, 0, 0⟩ (bs.take k)).base = N2 at *
            go_wp2_with fail
            refine HN8.out.mono ?_
            rintro e wa ⟨rfl, rfl⟩
            go_wp2_with fail
            refine (HPM.out _).mono ?_
            rintro e wb ⟨rfl, rfl⟩
            go_wp2_with fail
            refine H11.out.mono ?_
            rintro e w9 ⟨rvb, rfl, hr9, ho9, hb9⟩
            obtain ⟨rba, rbc, hrvb, _⟩ := hr9.shape
            rw [List.length_replicate] at hrvb
            subst hrvb
            have HB9 := hid hb9
            have HR9 := hid hr9
            have HO9 := hid ho9
            clear hr9 ho9 hb9 H11 HN8
            go_wp2_with fail
            have hbW : Below wb.heap.size wb (w9.alloc (.cells #[.int .i64 (N2 : Int), .int .i64 1, .int .i64 0, .int .i64 0, .int .i64 0, .slice rba nm rbc] 34)) := HB9.out.alloc HB9.out.size _
            have hbox := heap_alloc_new w9 (.cells #[.int .i64 (N2 : Int), .int .i64 1, .int .i64 0, .int .i64 0, .int .i64 0, .slice rba nm rbc] 34)
            have hr9' := HR9.out.under ((Below.refl _ _).alloc (Nat.le_refl _) (.cells #[.int .i64 (N2 : Int), .int .i64 1, .int .i64 0, .int .i64 0, .int .i64 0, .slice rba nm rbc] 34))
            have hz9 : (w9.alloc (.cells #[.int .i64 (N2 : Int), .int .i64 1, .int .i64 0, .int .i64 0, .int .i64 0, .slice rba nm rbc] 34)).heap.size = w9.heap.size + 1 := by simp
            have hs89 := HB9.out.size
            have hwwb : w.heap.size ≤ wb.heap.size := HS8.out.below.size
            generalize w9.alloc (.cells #[.int .i64 (N2 : Int), .int .i64 1, .int .i64 0, .int .i64 0, .int .i64 0, .slice rba nm rbc] 34) = W9 at *
            have HR9' := hid hr9'
            have HBOX := hid hbox
            have HZ9 := hid hz9
            obtain ⟨Y, hsY, hrY, hY⟩ : ∃ Y : Nat → Prop, SO w W9 Y q a 0 2000000 (bs.take k) sf ∧ RX W9 w.heap.size Y _ ps ∧ ∀ z, wb.heap.size ≤ z → z < W9.heap.size → Y z := ⟨_, HS8.out.more hbW, (HR8.out.under hbW).wide (fun z hz => .inl hz), fun z h1 h2 => .inr ⟨h1, h2⟩⟩
            have HRY := hid hrY
            have HY := hid hY
            have H14' := hid (H14.out _ _ _ hsY hr9')
            clear hsY hrY hY hr9' hbox hbW hz9 H14
            refine H14'.out.mono ?_
            rintro e w10 ⟨rfl, hs10, hk10, hz10⟩
            have HS10 := hid hs10
            have HR10 := hid (HRY.out.kept hk10 hz10)
            have hrb10 : Recs w10 (.slice rba nm rbc) (List.replicate nm smallR) := HR9'.out.off (fun z hz => hk10 z (HY.out z (HO9.out z hz) (by have := HR9'.out.lt (by intro e; have := congrArg List.length e; simp at this; omega) z hz; omega))) hz10
            have hbx10 := (hk10 _ (HY.out w9.heap.size hs89 (by have := HZ9.out; omega))).trans HBOX.out
            have hz10' : w9.heap.size + 1 ≤ w10.heap.size := by have := HZ9.out; omega
            have HX10 := hid (And.intro hrb10 hbx10)
            clear hs10 hk10 hrb10 hbx10 H14' hz10 HBOX HR9' HY HRY
            have H18 : Hid (Calls Try.prog 18 #[.pointer (some ⟨q, 0, none⟩), .int .i64 0, .int .i64 10000000] w10 fun e w' => ∃ ps3 rv3, e = .returned rv3 ∧ BL w' w10.heap.size rv3 ps3 ∧ ps3.map Prod.fst = bs.take k ++ [NB] ∧ Below w10.heap.size w10 w') := HS10.out.readAll 10000000 (by omega) 0 rfl
            go_wp2_with fail
            refine H18.out.mono ?_
            rintro e w11 ⟨ps4, rv4, rfl, hbl4, hm4, hb11⟩
            have HL4 := hid hbl4
            have HM4 := hid hm4
            have HR11 := hid (HR10.out.under hb11)
            have HX11 : Hid (Recs w11 (.slice rba nm rbc) (List.replicate nm smallR) ∧ w11.heap[w9.heap.size]? = some (.cells #[.int .i64 (N2 : Int), .int .i64 1, .int .i64 0, .int .i64 0, .int .i64 0, .slice rba nm rbc] 34)) := ⟨HX10.out.1.under hb11, (hb11.block _ (by omega)).trans HX10.out.2⟩
            have HB11 := hid (HS10.out.below.trans (hb11.mono HS10.out.below.size))
            have hs11 := hb11.size
            clear hbl4 hm4 hb11 H18 HX10 HR10 HS10
            obtain ⟨i0, hi0, hi1, hi2, hi3⟩ := info34
            have hw11 : w.heap.size ≤ w11.heap.size := HB11.out.size
            have HROW0 : Hid ((w11.alloc (.cells #[] 34)).ownsRow w.heap.size 34 6 (.slice (some ⟨w11.heap.size, 0, none⟩) 0 0) 0 []) := World.ownsRow_lit w11 #[] 0 hw11 (Nat.zero_le _) rfl
            have HON : Hid (∀ u ∈ flatB (ps.take k), u.oneCell' = true) := flatB_one _ (fun p hp => HR11.out.bl.recs p (List.mem_of_mem_take hp))
            have hfl : (flatB (ps.take k)).length = k * 6 := by rw [flatB_length, List.length_take, Nat.min_eq_left hnl]
            have HNW : Hid (∀ j u, (flatB (ps.take k))[j]? = some u → (w11.alloc (.cells #[] 34)).cell? ((⟨g1, 0, none⟩ : Addr).add j) = some u) := HR11.out.cells k hnl (.cells #[] 34)
            have HCP : Hid (∀ v1 w13, w13.ownsRow w.heap.size 34 6 v1 (0 + k) ([] ++ flatB (ps.take k)) → (w11.alloc (.cells #[] 34)).grownBy w13 (some w11.heap.size) → (v1.ownBlock = some w11.heap.size ∨ v1.ownBlock = some (w11.alloc (.cells #[] 34)).heap.size) → BL w13 w.heap.size v1 (ps.take k) ∧ Below w11.heap.size w11 w13 ∧ ∀ z, v1.ownBlock = some z → w11.heap.size ≤ z) := fun v1 w13 h1 h2 h3 => by
              have hz : (w11.alloc (.cells #[] 34)).heap.size = w11.heap.size + 1 := by simp
              refine ⟨copy_row HR11.out hnl hw11 (by simpa using h1) h2 h3, grown_below2 ((Below.refl _ _).alloc (Nat.le_refl _) _) (Nat.le_refl _) h2 (fun z hz => by cases hz; exact Nat.le_refl _), fun z hz2 => ?_⟩
              rcases h3 with h3 | h3
              · rw [h3] at hz2; cases hz2; exact Nat.le_refl _
              · rw [h3, hz] at hz2; cases hz2; omega
            have HL : Hid ((ps.take k).length = k) := hid (by rw [List.length_take]; omega)
            have HLT : Hid (∀ z, (Value.slice rba nm rbc).ownBlock = some z → w.heap.size ≤ z ∧ z < w11.heap.size) := fun z hz => ⟨by have := HO9.out z hz; omega, HX11.out.1.lt (by intro e; have := congrArg List.length e; simp at this; omega) z hz⟩
            have HLR : Hid (∀ v1 w13 v2 w15 O, BL w13 w.heap.size v1 (ps.take k) → (∀ z, v1.ownBlock = some z → w11.heap.size ≤ z) → Below w11.heap.size w11 w13 → w15.ownsRow w.heap.size 34 6 v2 (k + 1) (flatB (ps.take k) ++ [.int .i64 (N2 : Int), .int .i64 1, .int .i64 0, .int .i64 0, .int .i64 0, .slice rba nm rbc]) → (w13.alloc O).grownBy w15 v1.ownBlock → (v2.ownBlock = v1.ownBlock ∨ v2.ownBlock = some (w13.alloc O).heap.size) → BL w15 w.heap.size v2 (ps.take k ++ [(NB, .slice rba nm rbc)]) ∧ Below w11.heap.size w11 w15) := fun v1 w13 v2 w15 O h1 h2 h3 h4 h5 h6 => last_row h1 h2 h3 (by rw [HNB.out]; exact HX11.out.1) HLT.out (by rw [HL.out, HNB.out]; exact h4) h5 h6
            have HRW1 : Hid (∀ v1 w13 O, BL w13 w.heap.size v1 (ps.take k) → (w13.alloc O).ownsRow w.heap.size 34 6 v1 k (flatB (ps.take k))) := fun v1 w13 O h => by
              have h1 := h.row
              rw [HL.out] at h1
              exact ownsRow_kept h1 (fun z hz => Below.heap_alloc _ _ _ (World.ownsRow.lt h1 z hz).2)
            have HNW1 : Hid (∀ w13 : World, ∀ j u, ([.int .i64 (N2 : Int), .int .i64 1, .int .i64 0, .int .i64 0, .int .i64 0, .slice rba nm rbc] : List Value)[j]? = some u → (w13.alloc (.cells #[.int .i64 (N2 : Int), .int .i64 1, .int .i64 0, .int .i64 0, .int .i64 0, .slice rba nm rbc] 34)).cell? ((⟨w13.heap.size, 0, none⟩ : Addr).add j) = some u) := fun w13 j u hu => by
              have hadd : (⟨w13.heap.size, 0, none⟩ : Addr).add j = ⟨w13.heap.size, j, none⟩ := by unfold Addr.add; split <;> simp_all
              rw [hadd]
              exact cell_at (heap_alloc_new w13 _) (by simpa using hu)
            have HON1 : Hid (∀ u ∈ ([.int .i64 (N2 : Int), .int .i64 1, .int .i64 0, .int .i64 0, .int .i64 0, .slice rba nm rbc] : List Value), u.oneCell' = true) := by intro u hu; simp at hu; rcases hu with rfl | rfl | rfl | rfl | rfl | rfl <;> rfl
            have H19 : Hid (∀ w15 v2 ps', BL w15 w.heap.size v2 ps' → ps'.map Prod.fst = bs.take k ++ [NB] → Below w11.heap.size w11 w15 → Calls Try.prog 19 #[rv4, v2] w15 fun e w' => e = .returned (.bool true) ∧ Below w15.heap.size w15 w') := fun w15 v2 ps' h1 h2 h3 => same_yes (HL4.out.under h3) h1 (by rw [HM4.out, h2]) (by have := congrArg List.length HM4.out; simp at this; omega)
            generalize flatB (ps.take k) = F at *
            go_wp2_with (at_builtin; first | (refine wpList_append_own_at _ rfl _ _ 31 rfl w.heap.size 34 i0 _ 6 64 Try.underlying31 hi0 hi1 hi2 hi3 rfl (by decide) _ 0 [] rfl HROW0.out ⟨g1, 0, none⟩ k cp1 F rfl hfl HNW.out HON.out (by unfold maxLen; omega) (by omega) (by simp; omega) ?_; intro v1 w13 hown13 hg13 _ hat13; obtain ⟨y1, y2, y3⟩ := HCP.out v1 w13 hown13 hg13 hat13; have HL13 := hid y1; have HB13 := hid y2; have HK13 := hid y3; have hbx := (y2.block w9.heap.size (by omega)).trans HX11.out.2; have z0 := cell_at hbx (j := 0) rfl; have z1 := cell_at hbx (j := 1) rfl; have z2 := cell_at hbx (j := 2) rfl; have z3 := cell_at hbx (j := 3) rfl; have z4 := cell_at hbx (j := 4) rfl; have z5 := cell_at hbx (j := 5) rfl; have HR13 := hid (HRW1.out v1 w13 (.cells #[.int .i64 (N2 : Int), .int .i64 1, .int .i64 0, .int .i64 0, .int .i64 0, .slice rba nm rbc] 34) y1); clear y1 y2 y3 hown13 hg13 hat13 hbx) | (refine wpList_append_own_at _ rfl _ _ 31 rfl w.heap.size 34 i0 _ 6 64 Try.underlying31 hi0 hi1 hi2 hi3 rfl (by decide) _ k F rfl HR13.out ⟨w13.heap.size, 0, none⟩ 1 1 [.int .i64 (N2 : Int), .int .i64 1, .int .i64 0, .int .i64 0, .int .i64 0, .slice rba nm rbc] rfl rfl (HNW1.out w13) HON1.out (by unfold maxLen; omega) (by omega) (by have := HB13.out.size; simp; omega) ?_; intro v2 w15 hown15 hg15 _ hat15; obtain ⟨x1, x2⟩ := HLR.out v1 w13 v2 w15 _ HL13.out HK13.out HB13.out hown15 hg15 hat15; have HL15 := hid x1; have HB15 := hid x2; clear x1 x2 hown15 hg15 hat15 z0 z1 z2 z3 z4 z5))
            refine (H19.out _ _ _ HL15.out (by rw [List.map_append, List.map_take, HPS.out]; rfl) HB15.out).mono ?_
            rintro e w16 ⟨rfl, hb16⟩
            have HB16 := hid (HB11.out.trans ((HB15.out.trans (hb16.mono HB15.out.size)).mono HB11.out.size))
            clear hb16
            go_wp2_with fail
            go_ret
            exact ⟨rfl, HB16.out⟩
end Go.Proofs.Ytlgaianlkbaedaa

