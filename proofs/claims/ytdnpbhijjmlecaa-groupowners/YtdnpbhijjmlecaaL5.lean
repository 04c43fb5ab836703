/- Whose the partitions are: the walk. -/
import Derived.Test.YtdnpbhijjmlecaaP4
import Derived.Deep.CutRange
import Derived.Deep.CutBlock
namespace Go.Proofs.Ytdnpbhijjmlecaa
open Go.RowKit Go.Maps
set_option maxRecDepth 100000
set_option linter.unusedSimpArgs false
set_option linter.unusedVariables false

theorem IL.at {w : World} {a : Option Addr} {n c : Nat} {l : List Int} (h : IL w (.slice a n c) l) (k : Nat) (hk : k < l.length) : ∃ b o, a = some ⟨b, o, none⟩ ∧ w.cell? ⟨b, o + k, none⟩ = some (.int .i64 l[k]) := by
  obtain ⟨⟨a', c', e', _, _, _, hat⟩, _⟩ := h
  simp only [Value.slice.injEq] at e'
  obtain ⟨b, o, e2, _, hc⟩ := hat (by intro e; rw [e] at hk; simp at hk)
  exact ⟨b, o, e'.1.trans e2, hc k hk⟩
theorem IL.at' {w : World} {b o n c : Nat} {l : List Int} (h : IL w (.slice (some ⟨b, o, none⟩) n c) l) (k : Nat) {x : Int} (hx : l[k]? = some x) : w.cell? ⟨b, o + k, none⟩ = some (.int .i64 x) := by
  obtain ⟨hk, rfl⟩ := List.getElem?_eq_some_iff.1 hx
  obtain ⟨b', o', e, hc⟩ := h.at k hk
  cases e
  exact hc
set_option maxHeartbeats 6400000 in
theorem owners_walk {w : World} {v : Value} {js : List Int} {pn : Int} (hn : IL w v js) (hpn : I64 pn) : Calls Try.prog 8 #[v, .int .i64 pn] w fun e w' => e = .returned (.bool true) ∧ Below w.heap.size w w' := by
  obtain ⟨i0, hi0, hz0, hz1, hz2⟩ := info3
  have HSH := hid (shown_any w)
  have HN := hid hn
  obtain ⟨⟨na, nc, rfl, _⟩, _⟩ := hn
  have hnf := HN.out.few
  have HPK : Hid (∀ V, Calls Try.prog 23 #[.int .i64 pn, .int .i64 16] V fun e w' => e = .returned (.int .i64 (pickI pn 16)) ∧ V = w') := fun V => pick_any pn 16 V hpn (by omega) (by omega)
  obtain ⟨hp1, hp2⟩ := pickI_range pn 16 (by omega)
  generalize pickI pn 16 = pk at *
  obtain ⟨P, rfl⟩ : ∃ P : Nat, pk = (P : Int) := ⟨pk.toNat, by omega⟩
  have hP : P < 16 := by omega
  clear hp1 hp2
  go_enter Try.func8, Try.ntmps8
  go_wp2_with fail
  refine HSH.out.mono ?_
  rintro e W1 ⟨rfl, hbs⟩
  have HBS := hid hbs
  clear hbs HSH
  have HNEW := hid (IS.new (w := W1))
  go_wp2_with fail
  refine HNEW.out.mono ?_
  rintro e W0 ⟨q, rfl, hi0'⟩
  have HS0 : Hid (RB W1 W0 q s0 0 (.slice none 0 0) []) := ⟨⟨_, hi0', (fun b hb => by cases hb)⟩, World.ownsRow_nil _ _ _ _⟩
  clear hi0' HNEW
  unfold ptr
  go_wp2_with fail
  go_loopg [7, 8] 17 (fun kx s7 s8 wr => ∃ (p : Nat) (a : Option Addr) (c : Nat), p ≤ P + 1 ∧ P + 1 - p ≤ kx ∧ s8 = .int .i64 ((p : Int) + 1) ∧ s7 = .slice a p c ∧ Hid (RB W1 wr q s0 0 (.slice a p c) (upto p)))
  case atStart => exact ⟨0, _, _, by omega, by omega, rfl, rfl, HS0.out⟩
  case round =>
    obtain ⟨p, pa, pc, hp, hpx, rfl, rfl, HRB⟩ := hrel
    clear HS0
    by_cases hpl : p < P + 1
    · have hpl' : ((p : Int) + 1) ≤ 1 + (P : Int) := by omega
      have HX : Hid ((wr.alloc (.cells #[.int .i64 ((p : Int) + 1)] 3)).ownsRow W1.heap.size 3 1 (.slice pa p pc) (upto p).length (vals (upto p))) := HRB.out.row.alloc _
      have HN1 : Hid (∀ j u, ([.int .i64 ((p : Int) + 1)] : List Value)[j]? = some u → (wr.alloc (.cells #[.int .i64 ((p : Int) + 1)] 3)).cell? ((⟨wr.heap.size, 0, none⟩ : Addr).add j) = some u) := fun j u hu => by
        cases j with
        | zero => simp at hu; subst hu; rw [add_at]; exact cell_blk (heap_alloc_new wr (.cells #[.int .i64 ((p : Int) + 1)] 3)) 0 _ rfl
        | succ j => simp at hu
      have HO1 : Hid (∀ u ∈ ([.int .i64 ((p : Int) + 1)] : List Value), u.oneCell' = true) := fun u hu => by simp at hu; subst hu; rfl
      have hbz : W1.heap.size ≤ wr.heap.size := by obtain ⟨X, h, _⟩ := HRB.out.is; exact h.below.size
      have hul : (upto p).length ≤ 16 := by rw [upto_len]; omega
      go_wp2_with fail
      refine (HPK.out _).mono ?_
      rintro e w2 ⟨rfl, rfl⟩
      go_wp2_with (at_builtin; go_loud (refine wpList_append_own_at _ rfl _ _ 30 rfl W1.heap.size 3 i0 _ 1 8 Try.underlying30 hi0 hz0 hz1 hz2 rfl (by decide) _ (upto p).length _ rfl HX.out ⟨wr.heap.size, 0, none⟩ 1 1 [.int .i64 ((p : Int) + 1)] rfl rfl HN1.out HO1.out (by first | omega | (unfold maxLen; omega)) (by first | omega | (unfold maxLen; omega)) (by simp; omega) ?_); intro v2 w2 hown2 hg2 _ hat2)
      have hp2 := RB.push HRB.out ((p : Int) + 1) hown2 hg2 hat2
      rw [upto_snoc] at hp2
      have HP2 := hid hp2
      obtain ⟨a2, c2, rfl⟩ := hp2.shape
      rw [upto_len] at HP2
      clear hp2 hown2 hg2 hat2 HX HN1 HO1
      rw [upto_len]
      go_wp2_with fail
      go_roundg (P + 1 - (p + 1))
      case measure => omega
      case rel => exact ⟨p + 1, a2, c2, by omega, Nat.le_refl _, by go_num, rfl, HP2.out⟩
    · have hpl' : ¬ ((p : Int) + 1) ≤ 1 + (P : Int) := by omega
      have hpe : p = P + 1 := by omega
      subst hpe
      go_wp2_with fail
      refine (HPK.out _).mono ?_
      rintro e w2 ⟨rfl, rfl⟩
      go_wp2_with fail
      have HSHL : Hid (SH W1 wr q s0 0 [] [(.slice pa (P + 1) pc, upto (P + 1))]) := HRB.out.sh (upto_ok (by omega)) (by rw [upto_len]; omega)
      clear HRB HPK hpl hpl' hp hpx
      obtain ⟨L, hL⟩ : ∃ L, L = upto (P + 1) := ⟨_, rfl⟩
      have hLl : L.length = P + 1 := by rw [hL, upto_len]
      rw [← hL] at HSHL
      clear hL
      have hL16 : L.length ≤ 16 := by omega
      rw [← hLl] at HSHL ⊢
      clear hLl hP
      have hlen : (js.length : Int) ≤ 9223372036854775807 := by omega
      go_loopg [9] 40 (fun kx s9 wr => ∃ (k : Nat) (S : Gs) (N : Nat), k ≤ 40 ∧ 40 - k ≤ kx ∧ s9 = .int .i64 (k : Int) ∧ Hid (N ≤ 20 * k ∧ OwnP S L ∧ SH W1 wr q S N [] [(.slice pa L.length pc, L)]))
      case atStart => exact ⟨0, s0, 0, by omega, by omega, rfl, by omega, ownP_s0 L, HSHL.out⟩
      case round =>
        obtain ⟨k, S, N, hk, hkx, rfl, HR⟩ := hrel
        clear HSHL
        obtain ⟨hN0, hO0, hS0⟩ := HR.out
        have HO := hid hO0
        have HS := hid hS0
        have HBK := hid hS0.below
        clear HR hO0 hS0
        by_cases hlt : k < js.length ∧ k < 40
        · obtain ⟨hk1, hk3⟩ := hlt
          have hk1' : (k : Int) < (js.length : Int) := by omega
          have hk3' : (k : Int) < 40 := by omega
          have hBW : Below w.heap.size w wr := HBS.out.trans (HBK.out.mono HBS.out.size)
          obtain ⟨nb, no, rfl, hnc⟩ := (HN.out.under hBW).at k hk1
          have hy64 := HN.out.ok js[k] (by simp)
          generalize js[k] = y at *
          have hfew : (idsL (foundG S.gs [103])).length ≤ 16 := by obtain ⟨X, hx⟩ := HS.out.is; have := (foundOk hx.ok [103]).few; simp [idsL]; omega
          have HME : Hid (Calls Try.prog 22 #[.pointer (some ⟨q, 0, none⟩), .string gB] wr fun e w' => ∃ a c, e = .returned (.slice a (idsL (foundG S.gs [103])).length c) ∧ IL w' (.slice a (idsL (foundG S.gs [103])).length c) (idsL (foundG S.gs [103])) ∧ In (fun b => wr.heap.size ≤ b) (.slice a (idsL (foundG S.gs [103])).length c) (idsL (foundG S.gs [103])) ∧ Below wr.heap.size wr w') := by
            obtain ⟨X, hx⟩ := HS.out.is
            exact hx.members gB gB_le
          generalize idsL (foundG S.gs [103]) = M0 at *
          unfold gB at HME
          go_wp2_with fail
          refine HME.out.mono ?_
          rintro e V1 ⟨a1, c1, rfl, hi1, hn1, hb1⟩
          have HS1 := hid (HS.out.fresh hb1 hi1 hn1)
          have hnc1 := kept_cell hb1 hnc
          clear hi1 hn1 HME hnc hBW HBK
          go_upto_region 14 with fail
          go_cut [56] from 46 to 139 (fun s56 V => ∃ b : Bool, s56 = .bool b ∧ (b = true → 0 < M0.length) ∧ V = V1)
          case first =>
            by_cases h0 : 0 < M0.length
            · have h0' : (0 : Int) < (M0.length : Int) := by omega
              go_wp2_with fail
              go_meet
              case rel => exact ⟨_, rfl, fun _ => h0, rfl⟩
            · have h0' : ¬ (0 : Int) < (M0.length : Int) := by omega
              go_wp2_with fail
              go_meet
              case rel => exact ⟨false, rfl, (fun h => by cases h), rfl⟩
          case rest =>
          obtain ⟨bb, rfl, hbb, hw⟩ := hcut
          subst hw
          go_upto_if 56 with fail
          go_cut [6] from 57 to 139 (fun s6 V => s6 = .pointer (some ⟨q, 0, none⟩) ∧ ∃ (S' : Gs) (N' : Nat), Hid (N' ≤ N + 1 ∧ OwnP S' L ∧ SH W1 V q S' N' [] [(.slice pa L.length pc, L)]))
          case first =>
            cases bb with
            | true =>
              have h0 := hbb rfl
              clear hbb
              have HP := hid (pick_any y M0.length wc hy64 (by omega) (by omega))
              obtain ⟨hr1, hr2⟩ := pickI_range y M0.length (by omega)
              generalize pickI y M0.length = r at *
              obtain ⟨r, rfl⟩ : ∃ n : Nat, r = (n : Int) := ⟨r.toNat, by omega⟩
              have hrl : r < M0.length := by omega
              obtain ⟨mb, mo, rfl, hmc⟩ := (HS1.out.listAt 0 rfl).at r hrl
              have hm64 := (HS1.out.listAt 0 rfl).ok M0[r] (by simp)
              generalize M0[r] = A at *
              obtain ⟨⟨S2, T2⟩, hap⟩ : ∃ p, p = applyI S (rcE 2 A 0 0 0 gB []) := ⟨_, rfl⟩
              have HC := hid (SH.call HS1.out (by omega) (rcE 2 A 0 0 0 gB []) ⟨sm 2 (by omega), hm64, sm 0 (by omega), sm 0 (by omega), sm 0 (by omega)⟩ gB_le none 0 (.inl ⟨rfl, rfl, rfl⟩) hap.symm)
              have HO2 := hid (ownP_leave HO.out (rcE 2 A 0 0 0 gB []) rfl rfl)
              rw [← hap] at HO2
              clear hap
              go_wp2_with fail
              refine HP.out.mono ?_
              rintro e w2 ⟨rfl, rfl⟩
              go_wp2_with fail
              refine HC.out.mono ?_
              rintro e w4 ⟨a4, c4, rfl, hs4, _⟩
              have HS4 := hid hs4
              clear hs4 HC
              unfold toldA
              go_wp2_with fail
              go_meet
              case rel => exact ⟨rfl, S2, N + 1, Nat.le_refl _, HO2.out, HS4.out.sub (fun p hp => hp) (fun p hp => List.mem_cons_of_mem _ (List.mem_cons_of_mem _ hp))⟩
            | false =>
              clear hbb
              obtain ⟨⟨S2, T2⟩, hap⟩ : ∃ p, p = applyI S (rcE 1 0 0 0 0 gB L) := ⟨_, rfl⟩
              have HC := hid (SH.call HS1.out (by omega) (rcE 1 0 0 0 0 gB L) (rcE_ok _ _ _ _ _ _ _ (by omega)) gB_le pa pc (.inr (List.mem_cons_of_mem _ (List.mem_cons_self ..))) hap.symm)
              have HO2 := hid (ownP_join HO.out (rcE 1 0 0 0 0 gB L) rfl rfl rfl)
              rw [← hap] at HO2
              clear hap
              go_wp2_with fail
              refine HC.out.mono ?_
              rintro e w4 ⟨a4, c4, rfl, hs4, _⟩
              have HS4 := hid hs4
              clear hs4 HC
              unfold toldA
              go_wp2_with fail
              go_meet
              case rel => exact ⟨rfl, S2, N + 1, Nat.le_refl _, HO2.out, HS4.out.sub (fun p hp => hp) (fun p hp => List.mem_cons_of_mem _ (List.mem_cons_of_mem _ hp))⟩
          case rest =>
          obtain ⟨rfl, S', N', HR'⟩ := hcut
          obtain ⟨hN1, hO1, hS1⟩ := HR'.out
          have HO1 := hid hO1
          have HS3 := hid hS1
          clear HS1 HS HO HR' hO1 hS1 hbb hnc1 hb1 hy64
          have hfew1 : (idsL (foundG S'.gs [103])).length ≤ 16 := by obtain ⟨X, hx⟩ := HS3.out.is; have := (foundOk hx.ok [103]).few; simp [idsL]; omega
          have hg0 : I64 (foundG S'.gs [103]).gen := by obtain ⟨X, hx⟩ := HS3.out.is; have := (foundOk hx.ok [103]).gen; unfold I64; omega
          have HF : Hid (ShareF S' L (idsL (foundG S'.gs [103])) (foundG S'.gs [103]).gen) := by obtain ⟨X, hx⟩ := HS3.out.is; exact shareF hx.ok HO1.out
          have HI64 : Hid (∀ x ∈ idsL (foundG S'.gs [103]), I64 x) := by
            obtain ⟨X, hx⟩ := HS3.out.is
            intro x hxm
            obtain ⟨m, hm, rfl⟩ := List.mem_map.1 hxm
            have h1 := (foundOk hx.ok [103]).mems m hm
            have h2 := (foundOk hx.ok [103]).ever
            unfold I64; omega
          have HME : Hid (Calls Try.prog 22 #[.pointer (some ⟨q, 0, none⟩), .string gB] wc fun e w' => ∃ a c, e = .returned (.slice a (idsL (foundG S'.gs [103])).length c) ∧ IL w' (.slice a (idsL (foundG S'.gs [103])).length c) (idsL (foundG S'.gs [103])) ∧ In (fun b => wc.heap.size ≤ b) (.slice a (idsL (foundG S'.gs [103])).length c) (idsL (foundG S'.gs [103])) ∧ Below wc.heap.size wc w') := by
            obtain ⟨X, hx⟩ := HS3.out.is
            exact hx.members gB gB_le
          have HGE : Hid (∀ V N bs ls, SH W1 V q S' N bs ls → Calls Try.prog 18 #[.pointer (some ⟨q, 0, none⟩), .string gB] V fun e w' => e = .returned (.int .i64 (foundG S'.gs [103]).gen) ∧ Below V.heap.size V w') := fun V N bs ls hs => by
            obtain ⟨X, hx⟩ := hs.is
            exact hx.gen gB gB_le
          have HOW : Hid (∀ V N bs ls p, SH W1 V q S' N bs ls → I64 p → Calls Try.prog 20 #[.pointer (some ⟨q, 0, none⟩), .string gB, .int .i64 p] V fun e w' => e = .returned (.int .i64 (ownerI (foundG S'.gs [103]) p)) ∧ Below V.heap.size V w') := fun V N bs ls p hs hp => by
            obtain ⟨X, hx⟩ := hs.is
            exact hx.owner gB gB_le p hp
          generalize (foundG S'.gs [103]).gen = g at *
          generalize idsL (foundG S'.gs [103]) = ids at *
          unfold gB at HME HGE HOW
          go_wp2_with fail
          refine HME.out.mono ?_
          rintro e V2 ⟨a2, c2, rfl, hi2, hn2, hb2⟩
          have HS4 := hid (HS3.out.fresh hb2 hi2 hn2)
          clear hi2 hn2 hb2 HME HS3
          go_wp2_with fail
          go_loopg [11, 12] ids.length (fun kx s11 s12 wr => ∃ (j : Nat), j ≤ ids.length ∧ ids.length - j ≤ kx ∧ s12 = .int .i64 (j : Int) ∧ s11 = .int .i64 ((fromN L.length ids.length j : Nat) : Int) ∧ Hid (SH W1 wr q S' (N' + j) [] [(.slice a2 ids.length c2, ids), (.slice pa L.length pc, L)]))
          case atStart => exact ⟨0, Nat.zero_le _, by omega, rfl, rfl, HS4.out⟩
          case round =>
            obtain ⟨j, hj, hjx, rfl, rfl, HSJ⟩ := hrel
            clear HS4
            by_cases hjl : j < ids.length
            · have hjl' : (j : Int) < (ids.length : Int) := by omega
              have hA64 := HI64.out ids[j] (by simp)
              have hsy := HF.out.sync j hjl
              have HOWN := hid (HF.out.own j hjl)
              have hql := shareL_len L ids.length j hjl
              have hft := from_top L.length ids.length j hjl
              rw [← hql] at hft
              have HFS : Hid (fromN L.length ids.length (j + 1) = fromN L.length ids.length j + (shareL L ids.length j).length) := by show _ = _; rw [hql]; rfl
              have HQ64 : Hid (∀ p ∈ shareL L ids.length j, I64 p) := fun p hp => (HSJ.out.listAt 1 rfl).ok p (shareL_mem hp)
              obtain ⟨mb, mo, rfl, hmc⟩ := (HSJ.out.listAt 0 rfl).at j hjl
              have HAE : Hid (ids[j]? = some ids[j]) := List.getElem?_eq_getElem hjl
              have HAP : Hid (∀ V, Below wr.heap.size wr V → _) := fun V hV => SH.anyCall HSJ.out hV (by omega) (rcE 6 ids[j] g 0 0 gB []) ⟨sm 6 (by omega), hA64, hg0, sm 0 (by omega), sm 0 (by omega)⟩ gB_le rfl hsy
              have HG1 : Hid (∀ V, Below wr.heap.size wr V → _) := fun V hV => HGE.out V _ _ _ (HSJ.out.under hV)
              have hzw : W1.heap.size ≤ wr.heap.size := HSJ.out.below.size
              have hmbl : mb < wr.heap.size := World.block_lt_of_cell? wr _ hmc
              have hm1 : ¬ mb = wr.heap.size := by omega
              have hm2 : ¬ wr.heap.size = mb := by omega
              clear hsy hql
              generalize shareL L ids.length j = Q at *
              generalize ids[j] = A at *
              generalize fromN L.length ids.length j = F at *
              simp only [toldA] at HAP
              go_upto_region 22 with fail
              go_cut [13] from 82 to 91 (fun s13 V => ∃ (T : Nat) (a : Option Addr) (c : Nat), s13 = .pointer (some ⟨T, 0, none⟩) ∧ Hid (SH W1 V q S' (N' + j + 1) [(T, toldA ⟨0, A, g, 0, Q⟩ a c)] [(.slice a Q.length c, Q), (.slice (some ⟨mb, mo, none⟩) ids.length c2, ids), (.slice pa L.length pc, L)]))
              case first =>
                have hB0 : Below wr.heap.size wr wr := Below.refl _ _
                go_wp2_with fail
                go_region_held3 (fun V => V.cell? ⟨mb, mo + j, none⟩ = some (.int .i64 A)) (go_keep) (first
                  | (go_at_call 18; refine (HG1.out _ (by repeat (first | exact hB0 | apply Below.drew | refine Below.alloc ?_ (by simp) _))).mono ?_; rintro e w8 ⟨rfl, hb8⟩; have hB8 := (show Below wr.heap.size wr _ by repeat (first | exact hB0 | apply Below.drew | refine Below.alloc ?_ (by simp) _)).trans (hb8.mono (show Below wr.heap.size wr _ by repeat (first | exact hB0 | apply Below.drew | refine Below.alloc ?_ (by simp) _)).size); have n8 := kept_cell hB8 hmc; have hm3 : ¬ mb = w8.heap.size := (by have := hB8.size; omega); have hm4 : ¬ w8.heap.size = mb := (by have := hB8.size; omega); first | (have hz8 : w8.heap[wr.heap.size]? = some (.cells #[.int .i64 0, .int .i64 0, .int .i64 0, .int .i64 0, .slice none 0 0] 36) := (hb8.block _ (by simp)).trans (by first | exact heap_alloc_new wr (.cells #[.int .i64 0, .int .i64 0, .int .i64 0, .int .i64 0, .slice none 0 0] 36) | exact heap_alloc_new wr.drew (.cells #[.int .i64 0, .int .i64 0, .int .i64 0, .int .i64 0, .slice none 0 0] 36))) | skip)
                  | (go_at_call 12; refine (HAP.out _ (by repeat (first | exact hB8 | apply Below.drew | refine Below.alloc ?_ (by first | exact hB8.size | exact hB8.drew.size) _))).mono ?_; rintro e w9 ⟨a9, c9, rfl, hap⟩; have HA9 := hid hap; have n9 := hap.cell 0 rfl j HAE.out; first | (have hz9 := hap.box (T := wr.heap.size) (Nat.le_refl _) hz8; have z0 := cell_blk hz9 0 _ rfl; have z1 := cell_blk hz9 1 _ rfl; have z2 := cell_blk hz9 2 _ rfl; have z3 := cell_blk hz9 3 _ rfl; have z4 := cell_blk hz9 4 _ rfl; have fz := frz_blk hz9 0; have fz1 := frz_blk hz9 1; have fz2 := frz_blk hz9 2; have fz3 := frz_blk hz9 3; have fz4 := frz_blk hz9 4) | (have hz9 := hap.box (T := w8.heap.size) (o := .cells #[.int .i64 0, .int .i64 0, .int .i64 0, .int .i64 0, .slice none 0 0] 36) hB8.size (by first | exact heap_alloc_new w8 (.cells #[.int .i64 0, .int .i64 0, .int .i64 0, .int .i64 0, .slice none 0 0] 36) | exact heap_alloc_new w8.drew (.cells #[.int .i64 0, .int .i64 0, .int .i64 0, .int .i64 0, .slice none 0 0] 36)); have z0 := cell_blk hz9 0 _ rfl; have z1 := cell_blk hz9 1 _ rfl; have z2 := cell_blk hz9 2 _ rfl; have z3 := cell_blk hz9 3 _ rfl; have z4 := cell_blk hz9 4 _ rfl; have fz := frz_blk hz9 0; have fz1 := frz_blk hz9 1; have fz2 := frz_blk hz9 2; have fz3 := frz_blk hz9 3; have fz4 := frz_blk hz9 4) | skip; clear hap)
                  | fail)
                · go_wp2_with fail
                  go_meet
                  case rel => exact ⟨_, a9, c9, rfl, HA9.out.behind (t := ⟨0, A, g, 0, Q⟩)⟩
                · go_wp2_with fail
                  go_meet
                  case rel => exact ⟨_, a9, c9, rfl, HA9.out.ahead (t := ⟨0, A, g, 0, Q⟩) hzw (T := w8.heap.size) hB8.size (heap_alloc_new w8 (.cells #[.int .i64 0, .int .i64 0, .int .i64 0, .int .i64 0, .slice none 0 0] 36))⟩
                · go_wp2_with fail
                  go_meet
                  case rel => exact ⟨_, a9, c9, rfl, HA9.out.ahead (t := ⟨0, A, g, 0, Q⟩) hzw (T := wr.heap.size) (Nat.le_refl _) hz8⟩
              case rest =>
              obtain ⟨T, ta, tc, rfl, HT⟩ := hcut
              clear HAP HG1 hmc hA64 HSJ
              have t0 : wc.cell? ⟨T, 0, none⟩ = some (.int .i64 0) := cell_blk (HT.out.boxAt 0 rfl) 0 _ rfl
              have t4 : wc.cell? ⟨T, 4, none⟩ = some (.slice ta Q.length tc) := cell_blk (HT.out.boxAt 0 rfl) 4 _ rfl
              have hQl : Q.length ≤ 16 := by omega
              go_wp2_with fail
              clear t0 t4
              go_loopg [14] Q.length (fun kx s14 wr => ∃ i : Nat, i ≤ Q.length ∧ Q.length - i ≤ kx ∧ s14 = .int .i64 (i : Int) ∧ Hid (SH W1 wr q S' (N' + j + 1) [(T, toldA ⟨0, A, g, 0, Q⟩ ta tc)] [(.slice ta Q.length tc, Q), (.slice (some ⟨mb, mo, none⟩) ids.length c2, ids), (.slice pa L.length pc, L)]))
              case atStart => exact ⟨0, Nat.zero_le _, by omega, rfl, HT.out⟩
              case round =>
                obtain ⟨i, hi, hix, rfl, HSI⟩ := hrel
                clear HT
                have u4 : wr.cell? ⟨T, 4, none⟩ = some (.slice ta Q.length tc) := cell_blk (HSI.out.boxAt 0 rfl) 4 _ rfl
                by_cases hil : i < Q.length
                · have hil' : (i : Int) < (Q.length : Int) := by omega
                  have hpm : Q[i] ∈ Q := by simp
                  have hown := HOWN.out Q[i] hpm
                  have hp64 := HQ64.out Q[i] hpm
                  obtain ⟨qb, qo, rfl, hqc⟩ := (HSI.out.listAt 0 rfl).at i hil
                  have hmc := (HSI.out.listAt 1 rfl).at' j HAE.out
                  clear hpm
                  generalize Q[i] = p at *
                  have HO1 : Hid (∀ V, Below wr.heap.size wr V → Calls Try.prog 20 #[.pointer (some ⟨q, 0, none⟩), .string ⟨#[103]⟩, .int .i64 p] V fun e w' => e = .returned (.int .i64 A) ∧ Below V.heap.size V w') := fun V hV => by
                    have := HOW.out V _ _ _ p (HSI.out.under hV) hp64
                    rw [hown] at this
                    exact this
                  have hB0 : Below wr.heap.size wr wr := Below.refl _ _
                  clear hown
                  go_wp2_with fail
                  go_region_held3 (fun V => V.cell? ⟨T, 4, none⟩ = some (.slice (some ⟨qb, qo, none⟩) Q.length tc) ∧ V.cell? ⟨qb, qo + i, none⟩ = some (.int .i64 p) ∧ V.cell? ⟨mb, mo + j, none⟩ = some (.int .i64 A)) (go_keep) (first
                    | (go_at_call 20; refine (HO1.out _ (by first | exact hB0 | exact hB0.drew)).mono ?_; rintro e w6 ⟨rfl, hb6⟩; have hB6 := (show Below wr.heap.size wr _ by first | exact hB0 | exact hB0.drew).trans hb6; have v4 := kept_cell hB6 u4; have v5 := kept_cell hB6 hqc; have v6 := kept_cell hB6 hmc)
                    | fail)
                  go_wp2_with fail
                  go_roundg (Q.length - (i + 1))
                  case measure => omega
                  case rel => exact ⟨i + 1, by omega, Nat.le_refl _, by go_num, by first | exact HSI.out.under hB6 | exact HSI.out.under hB6.drew | exact HSI.out.under (below_drewN hB6 _)⟩
                · have hil' : ¬ (i : Int) < (Q.length : Int) := by omega
                  go_wp2_with fail
                  go_roundg (ids.length - (j + 1))
                  case measure => omega
                  case rel => exact ⟨j + 1, by omega, Nat.le_refl _, by go_num, by rw [HFS.out]; go_num, HSI.out.sub (fun p hp => by cases hp) (fun p hp => List.mem_cons_of_mem _ hp)⟩
            · have hje : j = ids.length := by omega
              subst hje
              have hjl' : ¬ (ids.length : Int) < (ids.length : Int) := by omega
              by_cases h0 : 0 < ids.length
              · have h0' : (0 : Int) < (ids.length : Int) := by omega
                have h0'' : ¬ (ids.length : Int) = 0 := by omega
                have hne : ¬ ids = [] := by intro e; rw [e] at h0; simp at h0
                have h0b : ((ids.length : Int) == 0) = false := by simp [hne]
                rw [from_all _ _ h0]
                go_wp2_with fail
                go_roundg (40 - (k + 1))
                case measure => omega
                case rel => exact ⟨k + 1, S', N' + ids.length, by omega, Nat.le_refl _, by go_num, by omega, HO1.out, HSJ.out.sub (fun p hp => hp) (fun p hp => List.mem_cons_of_mem _ hp)⟩
              · have he : ids = [] := by cases ids with
                  | nil => rfl
                  | cons a l => simp at h0
                have hn0 := HF.out.none he
                have HO2 := HOW.out wr _ _ _ 1 HSJ.out (sm 1 (by omega))
                rw [hn0] at HO2
                have HO3 := hid HO2
                clear HO2 hn0
                subst he
                go_wp2_with fail
                refine HO3.out.mono ?_
                rintro e w6 ⟨rfl, hb6⟩
                have HSX := hid (HSJ.out.under hb6)
                clear hb6
                go_wp2_with fail
                go_roundg (40 - (k + 1))
                case measure => omega
                case rel => exact ⟨k + 1, S', N' + 0, by omega, Nat.le_refl _, by go_num, by omega, HO1.out, HSX.out.sub (fun p hp => hp) (fun p hp => List.mem_cons_of_mem _ hp)⟩
        · by_cases hk1 : k < js.length
          · have hk1' : (k : Int) < (js.length : Int) := by omega
            have hk3' : ¬ (k : Int) < 40 := fun h => hlt ⟨hk1, by omega⟩
            clear hlt
            go_wp2_with fail
            go_ret
            exact ⟨rfl, HBS.out.trans (HBK.out.mono HBS.out.size)⟩
          · have hk1' : ¬ (k : Int) < (js.length : Int) := by omega
            clear hlt
            go_wp2_with fail
            go_ret
            exact ⟨rfl, HBS.out.trans (HBK.out.mono HBS.out.size)⟩
end Go.Proofs.Ytdnpbhijjmlecaa
