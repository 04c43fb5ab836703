/- load. -/
import Derived.Test.YtjggdecjnnpjaaaGreatH9
namespace Go.Proofs.YtjggdecjnnpjaaaGreat
open Go.RowKit Go.Maps Go.Sort
set_option maxRecDepth 100000
set_option linter.unusedSimpArgs false
set_option linter.unusedVariables false

theorem abytes_le : ∀ (l : List AF) (n : List UInt8), (abytes l n).length ≤ totalA l
  | [], n => by simp [abytes, alook]
  | x :: r, n => by
    have ih := abytes_le r n
    unfold abytes alook at ih ⊢
    rw [List.find?_cons]
    cases x.name == n with
    | true => simp [totalA]
    | false => simp only [totalA]; omega
theorem DiskA.small {w : World} {S : Nat → Prop} {a size : Nat} {l : List AF} (h : DiskA w S a size l) (n : List UInt8) : (abytes l n).length ≤ 16777216 := by
  have := abytes_le l n
  have := h.facts
  omega
def oneS (s : RS) : (Int × Int) × RS := (((numS s).1, (numS (numS s).2).1), (numS (numS s).2).2)
theorem pairs_step (n : Nat) (s : RS) : pairsS (n + 1) s = ((oneS s).1 :: (pairsS n (oneS s).2).1, (pairsS n (oneS s).2).2) := rfl
theorem pairs_succ : ∀ (n : Nat) (s : RS), pairsS (n + 1) s = ((pairsS n s).1 ++ [(oneS (pairsS n s).2).1], (oneS (pairsS n s).2).2)
  | 0, s => rfl
  | n + 1, s => by
    rw [pairs_step (n + 1) s, pairs_succ n (oneS s).2, pairs_step n s]
    rfl
/-- What Open finds. -/
def openL (fs : List AF) (name : ByteArray) : List (Int × Int) × Int := if synE fs name = 0 then eload (abytes fs name.data.toList) else ([], 0)
/-- What load leaves. -/
def LoadPost (w : World) (q a : Nat) (name : ByteArray) (l : List (Int × Int)) (w' : World) : Prop :=
  ∃ U' v', CacheM w' U' q a name v' l ∧ (∀ k, U' k → k = q ∨ w.heap.size ≤ k) ∧ Keeps (fun k => k = q) w w'
theorem load_same {w w' : World} {q a name} (h : CacheM w (fun k => k = q) q a name (.slice none 0 0) []) (hb : Below w.heap.size w w') : LoadPost w q a name [] w' :=
  ⟨_, _, h.under hb, fun k hk => .inl hk, Keeps.of_below hb⟩
theorem load_set {w W : World} {q a name} (h : CacheM w (fun k => k = q) q a name (.slice none 0 0) []) (hb : Below w.heap.size w W) {v : Value} {l : List (Int × Int)} (hv : W.ownsRow w.heap.size 68 2 v l.length (flatN l)) : LoadPost w q a name l (W.setCell ⟨q, 2, none⟩ v) := by
  have hq := h.below q rfl
  have hs := hb.size
  have hset := (h.under hb).set (EL.of hv rfl) (fun k => w.heap.size ≤ k ∧ k < W.heap.size) (fun k hk => ⟨.inr (World.ownsRow.lt hv k hk), by have := (World.ownsRow.lt hv k hk).1; omega⟩) (fun k hk => hk.2)
  refine ⟨_, v, hset, fun k hk => ?_, (Keeps.of_below hb).trans (keeps_set W q 2 v) (fun x hx => .inl hx)⟩
  rcases hk with hk | hk
  · exact .inl hk
  · exact .inr hk.1
/-- Where load stands: the reader, the entries that were read. -/
structure LoadAt (w wr : World) (p k : Nat) (s : RS) (sv : Value) : Prop where
  below : Below w.heap.size w wr
  fresh : w.heap.size ≤ p
  pd : Pd wr p (pairsS k s).2
  row : wr.ownsRow w.heap.size 68 2 sv k (flatN (pairsS k s).1)
theorem LoadAt.off {w wr : World} {p k : Nat} {s : RS} {sv : Value} (h : LoadAt w wr p k s sv) : sv.ownBlock ≠ some p := fun e => by
  obtain ⟨_, ⟨e0, _⟩ | ⟨g, cap', cur, e0, hb, hg, _⟩⟩ := h.row
  · rw [e0] at e; cases e
  · rw [e0] at e
    cases e
    have := h.pd.box
    rw [hg] at this
    cases this
/-- The reader went on. -/
theorem LoadAt.read {w wr w1 : World} {p k : Nat} {s : RS} {sv : Value} (h : LoadAt w wr p k s sv) (hg : wr.grownBy w1 (some p)) : Below w.heap.size w w1 ∧ w1.ownsRow w.heap.size 68 2 sv k (flatN (pairsS k s).1) := by
  refine ⟨h.below.grown hg h.below.size (fun j hj => by cases hj; exact h.fresh), ownsRow_kept h.row (fun j hj => hg.block j (World.ownsRow.lt h.row j hj).2 (fun e => h.off (by rw [hj, e])))⟩
set_option maxHeartbeats 400000 in
theorem pread_any (t : List UInt8) (w : World) (ht : t.length ≤ maxLen) : Calls Tryz.prog 60 #[.string (strOf t)] w fun e w' => e = .returned (.pointer (some ⟨w.heap.size, 0, none⟩)) ∧ Pd w' w.heap.size ⟨t, false⟩ ∧ Below w.heap.size w w' := by
  have HP : Hid (Pd (w.alloc (.cells #[.string (strOf t), .bool false] 121)) w.heap.size ⟨t, false⟩ ∧ Below w.heap.size w (w.alloc (.cells #[.string (strOf t), .bool false] 121))) := ⟨⟨heap_alloc_new w _, ht⟩, (Below.refl _ _).alloc (Nat.le_refl _) _⟩
  go_enter Tryz.func60, Tryz.ntmps60
  go_wp2_with fail
  go_ret
  exact ⟨rfl, HP.out⟩
set_option maxHeartbeats 3200000 in
theorem load_any {w : World} {S : Nat → Prop} {q a size : Nat} {name : ByteArray} {fs : List AF} (h : CacheM w (fun k => k = q) q a name (.slice none 0 0) []) (hd : DiskA w S a size fs) (hn : name.size ≤ maxLen) :
    Calls Tryz.prog 44 #[.pointer (some ⟨q, 0, none⟩)] w fun e w' => e = .returned (.int .i64 (openL fs name).2) ∧ LoadPost w q a name (openL fs name).1 w' := by
  obtain ⟨k0, k1, k2⟩ := h.c
  have hbl := hd.small name.data.toList
  have H40 : Hid (∀ W, Below w.heap.size w W → Calls Tryz.prog 52 #[.pointer (some ⟨q, 0, none⟩)] W fun e w' => e = .returned (.pointer (some ⟨a, 0, none⟩)) ∧ w' = W) := fun W hb => cdisk_any (h.under hb)
  have H41 : Hid (∀ W, Below w.heap.size w W → Calls Tryz.prog 23 #[.pointer (some ⟨a, 0, none⟩), .string name] W fun e w' => e = .returned (.tuple #[.string (strOf (abytes fs name.data.toList)), .int .i64 (synE fs name : Int)]) ∧ Below w.heap.size w w') := fun W hb => (readA (hd.under hb) name hn).mono fun e w' ⟨e1, e2⟩ => ⟨e1, hb.trans (e2.mono hb.size)⟩
  have HKp : Hid (∀ W, Below w.heap.size w W → ∀ p u, w.cell? p = some u → W.cell? p = some u) := fun W hb p u hu => (World.cell?_of_block (hb.block p.block (World.block_lt_of_cell? w _ hu))).trans hu
  have HM := hid h
  have HO : Hid (openL fs name = if synE fs name = 0 then eload (abytes fs name.data.toList) else ([], 0)) := rfl
  have hk1 := k1
  have HK2 := hid k2
  clear h hd k0 k2
  generalize abytes fs name.data.toList = bs at *
  generalize synE fs name = E at *
  generalize openL fs name = R at *
  go_enter Tryz.func44, Tryz.ntmps44
  go_wp2_with fail
  go_region_held3 (fun w' => w'.cell? ⟨q, 1, none⟩ = some (.string name)) (go_keep)
      (first
      | (go_at_call 52; refine (H40.out _ (by first | exact Below.refl _ _ | exact (Below.refl _ _).drew)).mono ?_; rintro e w2 ⟨rfl, rfl⟩)
      | (go_at_call 23; refine (H41.out _ (by first | exact Below.refl _ _ | exact (Below.refl _ _).drew)).mono ?_; rintro e w3 ⟨rfl, hb3⟩; have p3 := HKp.out _ hb3 _ _ hk1)
      | fail)
  all_goals
    by_cases hE : E = 0
    · subst hE
      rw [if_pos rfl] at HO
      have HU := hid (punseal_any bs w3 (by omega))
      have HEL : Hid (eload bs = if bs.length < 4 then ([], 5) else if fourN bs ≠ crcL (bs.drop 4) then ([], 6) else if doneS (pairsS (countS 200 ⟨bs.drop 4, false⟩).1.toNat (countS 200 ⟨bs.drop 4, false⟩).2).2 && riseB (-1) (-1) (pairsS (countS 200 ⟨bs.drop 4, false⟩).1.toNat (countS 200 ⟨bs.drop 4, false⟩).2).1 then ((pairsS (countS 200 ⟨bs.drop 4, false⟩).1.toNat (countS 200 ⟨bs.drop 4, false⟩).2).1, 0) else ([], 4)) := rfl
      by_cases h4 : bs.length < 4
      · rw [if_pos h4] at HU HEL
        clear h4
        go_wp2_with fail
        refine HU.out.mono ?_
        rintro e w4 ⟨rfl, rfl⟩
        go_wp2_with fail
        go_ret
        rw [HO.out, HEL.out]
        exact ⟨rfl, load_same HM.out hb3⟩
      · rw [if_neg h4] at HU HEL
        by_cases h5 : fourN bs ≠ crcL (bs.drop 4)
        · rw [if_pos h5] at HU HEL
          clear h4 h5
          go_wp2_with fail
          refine HU.out.mono ?_
          rintro e w4 ⟨rfl, rfl⟩
          go_wp2_with fail
          go_ret
          rw [HO.out, HEL.out]
          exact ⟨rfl, load_same HM.out hb3⟩
        · rw [if_neg h5] at HU HEL
          have hdl : (bs.drop 4).length ≤ maxLen := by rw [List.length_drop]; unfold maxLen; omega
          have HR := hid (pread_any (bs.drop 4) w3 hdl)
          have hrg := countS_rng 200 ⟨bs.drop 4, false⟩ (by omega)
          have HCt : Hid (∀ W p, Pd W p ⟨bs.drop 4, false⟩ → Calls Tryz.prog 61 #[.pointer (some ⟨p, 0, none⟩), .int .i64 200] W fun e w' => e = .returned (.int .i64 (countS 200 ⟨bs.drop 4, false⟩).1) ∧ Pd w' p (countS 200 ⟨bs.drop 4, false⟩).2 ∧ W.grownBy w' (some p)) := fun W p hp => pcount_any hp 200 (by omega)
          clear h4 h5
          generalize countS 200 ⟨bs.drop 4, false⟩ = C at *
          obtain ⟨n0, s0⟩ := C
          simp only at hrg HEL HCt
          obtain ⟨N, rfl⟩ := Int.eq_ofNat_of_zero_le hrg.1
          rw [Int.toNat_natCast] at HEL
          have hN : N ≤ 200 := by omega
          clear hrg
          generalize bs.drop 4 = rs at *
          go_wp2_with fail
          refine HU.out.mono ?_
          rintro e w4 ⟨rfl, rfl⟩
          go_wp2_with fail
          refine HR.out.mono ?_
          rintro e w5 ⟨rfl, hp5, hb5⟩
          go_wp2_with fail
          refine (HCt.out _ _ hp5).mono ?_
          rintro e w6 ⟨rfl, hp6, hg6⟩
          have hs3 := hb3.size
          have HL : Hid (LoadAt w w6 w4.heap.size 0 s0 (.slice none 0 0)) := ⟨(hb3.trans (hb5.mono hs3)).grown hg6 (hb3.trans (hb5.mono hs3)).size (fun j hj => by cases hj; exact hs3), hs3, hp6, World.ownsRow_nil _ _ _ _⟩
          clear hp5 hp6 hg6 HR HU HCt p3
          generalize w4.heap.size = p at *
          obtain ⟨i0, hi0, hz0, hz1, hz2⟩ := info74
          go_wp2_with fail
          go_loopg [7, 32] N (fun kx s7 s32 wr => ∃ (k : Nat) (sv : Value), k ≤ N ∧ N - k ≤ kx ∧ s32 = .int .i64 (k : Int) ∧ sv = s7 ∧ Hid (LoadAt w wr p k s0 sv))
          case atStart => exact ⟨0, _, by omega, by omega, rfl, rfl, HL⟩
          case round =>
            obtain ⟨k, sv, hkN, hkx, rfl, rfl, HI⟩ := hrel
            clear HL
            by_cases hlt : k < N
            · have hlt' : (k : Int) < (N : Int) := by omega
              have HS : Hid (pairsS (k + 1) s0 = ((pairsS k s0).1 ++ [((numS (pairsS k s0).2).1, (numS (numS (pairsS k s0).2).2).1)], (numS (numS (pairsS k s0).2).2).2)) := pairs_succ k s0
              have HP1 := hid (pnum_any HI.out.pd)
              have HP2 : Hid (∀ W, Pd W p (numS (pairsS k s0).2).2 → Calls Tryz.prog 62 #[.pointer (some ⟨p, 0, none⟩)] W fun e w' => e = .returned (.int .i64 (numS (numS (pairsS k s0).2).2).1) ∧ Pd w' p (numS (numS (pairsS k s0).2).2).2 ∧ W.grownBy w' (some p)) := fun W hp => pnum_any hp
              generalize numS (numS (pairsS k s0).2).2 = B2 at *
              generalize numS (pairsS k s0).2 = B1 at *
              obtain ⟨x1, t1⟩ := B1
              obtain ⟨x2, t2⟩ := B2
              simp only at HP1 HP2 HS
              go_wp2_with fail
              refine HP1.out.mono ?_
              rintro e w7 ⟨rfl, hp7, hg7⟩
              go_wp2_with fail
              refine (HP2.out _ hp7).mono ?_
              rintro e w8 ⟨rfl, hp8, hg8⟩
              obtain ⟨hb8, hr8⟩ := HI.out.read (hg7.trans hg8)
              have HB8 := hid hb8
              have HR8 := hid hr8
              have HP8 := hid hp8
              have hs8 := hb8.size
              have HR : Hid ((w8.alloc (.cells #[.int .i64 x1, .int .i64 x2] 68)).ownsRow w.heap.size 68 2 sv k (flatN (pairsS k s0).1)) := ownsRow_kept hr8 (fun j hj => Below.heap_alloc _ _ _ (World.ownsRow.lt hr8 j hj).2)
              have HNW : Hid (∀ j u, [Value.int .i64 x1, .int .i64 x2][j]? = some u → (w8.alloc (.cells #[.int .i64 x1, .int .i64 x2] 68)).cell? ((⟨w8.heap.size, 0, none⟩ : Addr).add j) = some u) := fun j u hu => by
                rw [add_lit0]
                exact cell_at (heap_alloc_new w8 (.cells #[.int .i64 x1, .int .i64 x2] 68)) (by simpa using hu)
              have HON : Hid (∀ u ∈ [Value.int .i64 x1, .int .i64 x2], u.oneCell' = true) := fun u hu => by
                simp at hu
                rcases hu with rfl | rfl <;> rfl
              have HNext : Hid (∀ v' w9, w9.ownsRow w.heap.size 68 2 v' (k + 1) (flatN (pairsS k s0).1 ++ [Value.int .i64 x1, .int .i64 x2]) → (w8.alloc (.cells #[.int .i64 x1, .int .i64 x2] 68)).grownBy w9 sv.ownBlock → LoadAt w w9 p (k + 1) s0 v') := fun v' w9 ho hg => by
                have hb9 := HB8.out.alloc hs8 (.cells #[.int .i64 x1, .int .i64 x2] 68)
                refine ⟨hb9.grown hg hb9.size (fun j hj => (World.ownsRow.lt HR8.out j hj).1), HI.out.fresh, ?_, ?_⟩
                · rw [HS.out]
                  exact HP8.out.kept ((hg.block p (by have := HP8.out.lt; simp; omega) (fun e => HI.out.off e.symm)).trans (Below.heap_alloc _ _ _ HP8.out.lt))
                · rw [HS.out, flatN_append]
                  exact ho
              clear hp7 hg7 hp8 hg8 hb8 hr8 HP1 HP2
              generalize flatN (pairsS k s0).1 = F at *
              go_wp2_with (at_builtin; refine wpList_append_own_at _ rfl _ _ 64 rfl w.heap.size 68 i0 _ 2 16 Tryz.underlying64 hi0 hz0 hz1 hz2 rfl (by decide) _ k F rfl HR.out ⟨w8.heap.size, 0, none⟩ 1 1 [.int .i64 x1, .int .i64 x2] rfl rfl HNW.out HON.out (by unfold maxLen; omega) (by omega) (by simp; omega) ?_; intro v' w9 hown9 hg9 _ hat)
              go_roundg (N - (k + 1))
              case measure => omega
              case rel => exact ⟨k + 1, v', by omega, Nat.le_refl _, by go_num, rfl, HNext.out _ _ hown9 hg9⟩
            · have hlt' : ¬ (k : Int) < (N : Int) := by omega
              have e : k = N := by omega
              subst e
              have HDn := hid (pdone_any HI.out.pd)
              have hpl := pairs_length k s0
              have HRi := hid (rise_any (EL.of HI.out.row hpl.symm) (by omega))
              obtain ⟨o7, n7, c7, rfl⟩ : ∃ o n c, sv = .slice o n c := by
                rcases HI.out.row.2 with ⟨e, _⟩ | ⟨g, cap', cur, e, _⟩
                · exact ⟨_, _, _, e⟩
                · exact ⟨_, _, _, e⟩
              cases hd : doneS (pairsS k s0).2 with
              | false =>
                rw [hd] at HDn HEL
                rw [Bool.false_and, if_neg (by simp)] at HEL
                go_wp2_with fail
                refine HDn.out.mono ?_
                rintro e w9 ⟨rfl, rfl⟩
                go_wp2_with fail
                go_ret
                rw [HO.out, HEL.out]
                exact ⟨rfl, load_same HM.out HI.out.below⟩
              | true =>
                rw [hd] at HDn HEL
                rw [Bool.true_and] at HEL
                cases hri : riseB (-1) (-1) (pairsS k s0).1 with
                | false =>
                  rw [hri] at HRi HEL
                  rw [if_neg (by simp)] at HEL
                  go_wp2_with fail
                  refine HDn.out.mono ?_
                  rintro e w9 ⟨rfl, rfl⟩
                  go_wp2_with fail
                  refine HRi.out.mono ?_
                  rintro e w10 ⟨rfl, hb10⟩
                  go_wp2_with fail
                  go_ret
                  rw [HO.out, HEL.out]
                  exact ⟨rfl, load_same HM.out (HI.out.below.trans (hb10.mono HI.out.below.size))⟩
                | true =>
                  rw [hri] at HRi HEL
                  rw [if_pos rfl] at HEL
                  go_wp2_with fail
                  refine HDn.out.mono ?_
                  rintro e w9 ⟨rfl, rfl⟩
                  go_wp2_with fail
                  refine HRi.out.mono ?_
                  rintro e w10 ⟨rfl, hb10⟩
                  have hbz := HI.out.below.trans (hb10.mono HI.out.below.size)
                  have HF := hid (load_set HM.out hbz (l := (pairsS k s0).1) (v := .slice o7 n7 c7) (by rw [hpl]; exact ownsRow_kept HI.out.row (fun j hj => hb10.block j (World.ownsRow.lt HI.out.row j hj).2)))
                  have u2 := (HM.out.under hbz).c.2.2
                  have uf := (HM.out.under hbz).f 2
                  clear hb10 hbz
                  go_wp2_with fail
                  go_ret
                  rw [HO.out, HEL.out]
                  exact ⟨rfl, HF.out⟩
    · rw [if_neg hE] at HO
      have hE' : ((E : Int) != 0) = true := by simp; omega
      go_wp2_with fail
      go_ret
      rw [HO.out]
      exact ⟨rfl, load_same HM.out hb3⟩

end Go.Proofs.YtjggdecjnnpjaaaGreat

