/- Generations, owners, ids, offsets: the walk. -/
import Derived.Test.YtdnpbhijjmlecaaL4a
import Derived.Test.YtdnpbhijjmlecaaSc
import Derived.Deep.CutRange
import Derived.Deep.CutBlock
namespace Go.Proofs.Ytdnpbhijjmlecaa
open Go.RowKit Go.Maps
set_option maxRecDepth 100000
set_option linter.unusedSimpArgs false
set_option linter.unusedVariables false

set_option maxHeartbeats 6400000 in
theorem rules_walk {w : World} {v : Value} {ops : List Rc} (h : Script w v ops) : Calls Try.prog 5 #[v] w fun e w' => e = .returned (.bool true) ∧ Below w.heap.size w w' := by
  obtain ⟨i0, hi0, hz0, hz1, hz2⟩ := info3
  have HSH := hid (shown_any w)
  have HO := hid h
  obtain ⟨⟨sa, sc, rfl, hsc⟩, hlen⟩ := h
  have HSC := hid hsc
  have hlen' : (ops.length : Int) ≤ 9223372036854775807 := by unfold maxLen at hlen; omega
  clear hsc
  go_enter Try.func5, Try.ntmps5
  go_wp2_with fail
  refine HSH.out.mono ?_
  rintro e W1 ⟨rfl, hbs⟩
  have HBS := hid hbs
  clear hbs HSH
  have HNEW := hid (IS.new (w := W1))
  go_wp2_with fail
  refine HNEW.out.mono ?_
  rintro e W0 ⟨q, rfl, hi0'⟩
  have HS0 : Hid (RI W1 W0 q s0 0 (.slice none 0 0) [] (-1)) := ⟨⟨_, hi0', (fun b hb => by cases hb)⟩, World.ownsRow_nil _ _ _ _, (fun y hy => by cases hy), (by kernel_rfl)⟩
  clear hi0' HNEW
  unfold ptr
  go_wp2_with fail
  go_loopg [5, 6, 7] 200 (fun kx s5 s6 s7 wr => ∃ (k : Nat) (last : Int) (ids : List Int) (S : Gs), k ≤ 200 ∧ 200 - k ≤ kx ∧ s7 = .int .i64 (k : Int) ∧ s6 = .int .i64 last ∧ (∃ a c, s5 = .slice a ids.length c) ∧ ids.length ≤ k ∧ Hid (RI W1 wr q S k s5 ids last))
  case atStart => exact ⟨0, -1, [], s0, by omega, by omega, rfl, rfl, ⟨_, _, rfl⟩, by simp, HS0.out⟩
  case round =>
    obtain ⟨k, last, ids, S, hk, hkx, rfl, rfl, ⟨va, vc, rfl⟩, hidl, HR⟩ := hrel
    clear HS0
    have HBK : Hid (Below W1.heap.size W1 wr) := by obtain ⟨X, h, _⟩ := HR.out.is; exact h.below
    by_cases hlt : k < ops.length ∧ k < 200
    · obtain ⟨hk1, hk3⟩ := hlt
      have hk1' : (k : Int) < (ops.length : Int) := by omega
      have hk3' : (k : Int) < 200 := by omega
      have hnel : ops ≠ [] := by intro e; rw [e] at hk1; simp at hk1
      obtain ⟨b, off, rfl, hc⟩ := HSC.out hnel
      have hBW : Below w.heap.size w wr := HBS.out.trans (HBK.out.mono HBS.out.size)
      obtain ⟨la, lc, r0, r1, r2, r3, r4, r5, r6, r7, hil, hrok, hnsz⟩ := (hc k hk1).under hBW
      obtain ⟨_, _, _, _, _, _, _, _, _, e7, hil0, _⟩ := hc k hk1
      have HIL : Hid (IL w (.slice la ops[k].list.length lc) ops[k].list) := by
        have := kept_cell hBW e7
        rw [r7] at this
        injection this with this
        rw [this]
        exact hil0
      have HRO := hid hrok
      clear hc hil e7 hil0 hrok hnsz
      generalize ops[k] = x at *
      obtain ⟨rk, ra, rb, rc, rd, rn, rt, rl⟩ := x
      simp only at r0 r1 r2 r3 r4 r5 r6 r7
      obtain ⟨m, hm⟩ : ∃ m : Rc, m = ⟨rk, ra, rb, rc, rd, gB, rt, rl⟩ := ⟨_, rfl⟩
      have HM := hid hm
      have HRM : Hid (RcOk m) := by rw [hm]; exact HRO.out
      have HAP : Hid (∀ V, Below (wr.alloc (.cells (recA m (.slice la m.list.length lc)) 32)).heap.size (wr.alloc (.cells (recA m (.slice la m.list.length lc)) 32)) V → _) := fun V hV => HR.out.apply (by omega) m HRM.out (by rw [hm]) la lc (by rw [hm]; exact HIL.out.under HBS.out) V hV
      have HST : Hid (StepF S (applyI S m).1 m (applyI S m).2) := step_ok (by obtain ⟨X, h, _⟩ := HR.out.is; exact h.ok) m
      have hkey : m.key = [103] := by rw [hm]; rfl
      have HOK : Hid (GsOk k S) := by obtain ⟨X, h, _⟩ := HR.out.is; exact h.ok
      obtain ⟨⟨S', ⟨terr, tmem, tgen, toff, tparts⟩⟩, hap⟩ : ∃ p, p = applyI S m := ⟨_, rfl⟩
      rw [← hap] at HAP HST
      clear hap
      have hF := HST.out
      obtain ⟨⟨fg1, fg2⟩, fep, ferr, fjoin, fever, fcom, foff⟩ := hF
      rw [hkey] at fg1 fg2 ferr fjoin fever fcom foff
      have HFJ := hid fjoin
      have HFC := hid fcom
      have HFO := hid foff
      have HFE := hid ferr
      clear fjoin fcom foff ferr HST hkey
      have hg0 := (foundOk HOK.out [103]).gen
      have HGE : Hid (∀ V, Below wr.heap.size wr V → Calls Try.prog 18 #[.pointer (some ⟨q, 0, none⟩), .string gB] V fun e w' => e = .returned (.int .i64 (foundG S.gs [103]).gen) ∧ Below V.heap.size V w') := fun V hV => by
        obtain ⟨X, hx, _⟩ := HR.out.is
        exact (hx.under hV).gen gB gB_le
      have HEP : Hid (∀ V, Below wr.heap.size wr V → Calls Try.prog 19 #[.pointer (some ⟨q, 0, none⟩)] V fun e w' => e = .returned (.int .i64 S.epoch) ∧ V = w') := fun V hV => by
        obtain ⟨X, hx, _⟩ := HR.out.is
        exact (hx.under hV).epoch
      have HLA : Hid (offI (foundG S.gs [103]) 2 = last) := HR.out.last
      have HIDS : Hid (∀ y ∈ ids, 1 ≤ y ∧ y ≤ (foundG S.gs [103]).ever) := HR.out.ids
      have HVM : Hid (∀ b, (Value.slice va ids.length vc).ownBlock = some b → b < wr.heap.size) := fun b hb => (World.ownsRow.lt HR.out.row b hb).2
      clear HR
      subst hm
      unfold recA recV at HAP
      unfold gB at HGE HAP
      simp only at HAP HFJ HFC HFO HFE fg1 fg2 fep fever
      go_upto_region 12 with fail
      have HBV : Hid (Below wr.heap.size wr (wr.alloc (.cells #[.int .i64 rk, .int .i64 ra, .int .i64 rb, .int .i64 rc, .int .i64 rd, .string gB, .string rt, .slice la rl.length lc] 32))) := (Below.refl _ _).alloc (Nat.le_refl _) _
      have HMV : Hid ((wr.alloc (.cells #[.int .i64 rk, .int .i64 ra, .int .i64 rb, .int .i64 rc, .int .i64 rd, .string gB, .string rt, .slice la rl.length lc] 32)).heap[wr.heap.size]? = some (.cells #[.int .i64 rk, .int .i64 ra, .int .i64 rb, .int .i64 rc, .int .i64 rd, .string gB, .string rt, .slice la rl.length lc] 32)) := heap_alloc_new _ _
      have hML : wr.heap.size < (wr.alloc (.cells #[.int .i64 rk, .int .i64 ra, .int .i64 rb, .int .i64 rc, .int .i64 rd, .string gB, .string rt, .slice la rl.length lc] 32)).heap.size := by simp
      unfold gB at HBV HMV hML
      clear r0 r1 r2 r3 r4 r5 r6 r7
      obtain ⟨M, hM⟩ : ∃ M, M = wr.heap.size := ⟨_, rfl⟩
      generalize wr.alloc (.cells #[.int .i64 rk, .int .i64 ra, .int .i64 rb, .int .i64 rc, .int .i64 rd, .string ⟨#[103]⟩, .string rt, .slice la rl.length lc] 32) = V0 at *
      have HG1 := hid (HGE.out V0 HBV.out)
      go_wp2_with fail
      refine HG1.out.mono ?_
      rintro e V1 ⟨rfl, hb1⟩
      have HB1 := hid hb1
      clear hb1 HG1
      have HE1 := hid (HEP.out V1 (HBV.out.trans (HB1.out.mono HBV.out.size)))
      go_wp2_with fail
      refine HE1.out.mono ?_
      rintro e V2 ⟨rfl, rfl⟩
      clear HE1
      have HA1 := hid (HAP.out V1 HB1.out)
      have hM1 := (HB1.out.block _ hML).trans HMV.out
      have m0 := cell_blk hM1 0 _ rfl
      have m1 := cell_blk hM1 1 _ rfl
      have m2 := cell_blk hM1 2 _ rfl
      have m3 := cell_blk hM1 3 _ rfl
      have m4 := cell_blk hM1 4 _ rfl
      have m5 := cell_blk hM1 5 _ rfl
      have m6 := cell_blk hM1 6 _ rfl
      have m7 := cell_blk hM1 7 _ rfl
      go_wp2_with fail
      refine HA1.out.mono ?_
      rintro e w4 ⟨a4, c4, rfl, hra⟩
      have HRA := hid hra
      clear hra HA1 hM1 m0 m1 m2 m3 m4 m5 m6 m7 HAP
      unfold toldC at HRA ⊢
      go_upto_region 15 with fail
      have hMT : wr.heap.size ≤ w4.heap.size := by
        have := (Array.getElem?_eq_some_iff.1 HRA.out.m).1
        simp at this; omega
      obtain ⟨T, hT⟩ : ∃ T, T = w4.heap.size := ⟨_, rfl⟩
      rw [← hT] at HRA hMT ⊢
      generalize w4.alloc (.cells #[.int .i64 terr, .int .i64 tmem, .int .i64 tgen, .int .i64 toff, .slice a4 tparts.length c4] 36) = V3 at *
      clear hT
      have HG3 : Hid (Calls Try.prog 18 #[.pointer (some ⟨q, 0, none⟩), .string gB] V3 fun e w' => e = .returned (.int .i64 (foundG S'.gs [103]).gen) ∧ Below V3.heap.size V3 w') := by
        obtain ⟨X, hx, _⟩ := HRA.out.is
        exact hx.gen gB gB_le
      unfold gB at HG3
      go_wp2_with fail
      refine HG3.out.mono ?_
      rintro e V4 ⟨rfl, hb4⟩
      have HR4 := hid (HRA.out.under hb4)
      clear hb4 HRA HG3
      have HE4 : Hid (Calls Try.prog 19 #[.pointer (some ⟨q, 0, none⟩)] V4 fun e w' => e = .returned (.int .i64 S'.epoch) ∧ V4 = w') := by
        obtain ⟨X, hx, _⟩ := HR4.out.is
        exact hx.epoch
      have HOK2 : Hid (GsOk (k + 1) S') := by obtain ⟨X, h, _⟩ := HR4.out.is; exact h.ok
      have hg1 := (foundOk HOK2.out [103]).gen
      have t0 := cell_blk HR4.out.t 0 _ rfl
      have t1 := cell_blk HR4.out.t 1 _ rfl
      have m0 : V4.cell? ⟨wr.heap.size, 0, none⟩ = some (.int .i64 rk) := cell_blk HR4.out.m 0 _ rfl
      have m1 : V4.cell? ⟨wr.heap.size, 1, none⟩ = some (.int .i64 ra) := cell_blk HR4.out.m 1 _ rfl
      have m2 : V4.cell? ⟨wr.heap.size, 2, none⟩ = some (.int .i64 rb) := cell_blk HR4.out.m 2 _ rfl
      have m3 : V4.cell? ⟨wr.heap.size, 3, none⟩ = some (.int .i64 rc) := cell_blk HR4.out.m 3 _ rfl
      have m4 : V4.cell? ⟨wr.heap.size, 4, none⟩ = some (.int .i64 rd) := cell_blk HR4.out.m 4 _ rfl
      generalize wr.heap.size = M at *
      generalize (foundG S.gs [103]).gen = was at *
      generalize hnow : (foundG S'.gs [103]).gen = now at *
      have d1 : ¬ now < was := by omega
      have d2 : ¬ was + 1 < now := by omega
      have d3 : ¬ S'.epoch < S.epoch := by omega
      go_upto_region 16 with fail
      go_cut [9, 12, 74] from 36 to 158 (fun s9 s12 s74 V => s9 = .int .i64 was ∧ s12 = .int .i64 now ∧ s74 = .bool false ∧ V = V4)
      case first =>
        by_cases he : terr = 0
        · subst he
          go_wp2_with fail
          refine HE4.out.mono ?_
          rintro e V5 ⟨rfl, rfl⟩
          go_wp2_with fail
          go_meet
          case rel => exact ⟨rfl, rfl, by simp; omega, rfl⟩
        · have hnw : now = was := HFE.out he
          go_wp2_with fail
          refine HE4.out.mono ?_
          rintro e V5 ⟨rfl, rfl⟩
          go_wp2_with fail
          go_meet
          case rel => exact ⟨rfl, by rw [hnw], by simp; omega, rfl⟩
      case rest =>
        obtain ⟨rfl, rfl, rfl, rfl⟩ := hcut
        clear HE4
        go_upto_region 18 with fail
        go_cut [87] from 36 to 158 (fun s87 V => ∃ bj : Bool, s87 = .bool bj ∧ Hid (bj = true → rk = 1 ∧ ra = 0 ∧ terr = 0) ∧ V = wc)
        case first =>
          by_cases hk1 : rk = 1
          · by_cases ha0 : ra = 0
            · by_cases he : terr = 0
              · go_wp2_with fail
                go_meet
                case rel => exact ⟨true, by simp [he], fun _ => ⟨hk1, ha0, he⟩, rfl⟩
              · go_wp2_with fail
                go_meet
                case rel => exact ⟨false, by simp [he], (fun h => by cases h), rfl⟩
            · go_wp2_with fail
              go_meet
              case rel => exact ⟨false, by simp [ha0], (fun h => by cases h), rfl⟩
          · go_wp2_with fail
            go_meet
            case rel => exact ⟨false, by simp [hk1], (fun h => by cases h), rfl⟩
        case rest =>
        obtain ⟨bj, rfl, HBJN, rfl⟩ := hcut
        go_upto_if 87 with fail
        go_cut [5] from 36 to 158 (fun s5 V => ∃ (a : Option Addr) (c : Nat) (ids' : List Int), s5 = .slice a ids'.length c ∧ ids'.length ≤ k + 1 ∧ Hid (RB W1 V q S' (k + 1) (.slice a ids'.length c) ids') ∧ Hid (∀ y ∈ ids', 1 ≤ y ∧ y ≤ (foundG S'.gs [103]).ever) ∧ Hid (∀ p u, M ≤ p.block → wc.cell? p = some u → V.cell? p = some u))
        case first =>
          cases bj with
          | false =>
            go_wp2_with fail
            go_meet
            case rel => exact ⟨_, _, ids, rfl, by omega, HR4.out.rb, (fun y hy => by have := HIDS.out y hy; omega), fun p u hp hu => hu⟩
          | true =>
            obtain ⟨hjk, hja, hje⟩ := HBJN.out rfl
            have HJJ := hid (HFJ.out hjk hja hje)
            clear hjk hja hje
            have HILD : Hid (IL wc (.slice va ids.length vc) ids) := IL.of HR4.out.row (fun y hy => by have h1 := HIDS.out y hy; have h2 := (foundOk HOK.out [103]).ever; unfold I64; constructor <;> omega) (by omega)
            go_wp2_with fail
            go_loopg [13] ids.length (fun kx s13 wr => ∃ j : Nat, j ≤ ids.length ∧ ids.length - j ≤ kx ∧ s13 = .int .i64 (j : Int) ∧ Hid (Below wc.heap.size wc wr))
            case atStart => exact ⟨0, Nat.zero_le _, by omega, rfl, Below.refl _ _⟩
            case round =>
              obtain ⟨j, hj, hjx, rfl, HBJ⟩ := hrel
              by_cases hjl : j < ids.length
              · have hjl' : (j : Int) < (ids.length : Int) := by omega
                have hne : ids ≠ [] := by intro e; rw [e] at hjl; simp at hjl
                have hc : ∃ b o, va = some ⟨b, o, none⟩ ∧ wr.cell? ⟨b, o + j, none⟩ = some (.int .i64 ids[j]) := by
                  obtain ⟨⟨a', c', e', _, _, _, hat⟩, _⟩ := HILD.out
                  simp only [Value.slice.injEq] at e'
                  obtain ⟨b, o, e2, _, hc⟩ := hat hne
                  exact ⟨b, o, e'.1.trans e2, kept_cell HBJ.out (hc j hjl)⟩
                obtain ⟨ib, io, rfl, hc⟩ := hc
                have t1j := kept_cell HBJ.out t1
                have hdf : ¬ ids[j] = tmem := by have := HIDS.out ids[j] (by simp); have := HJJ.out; omega
                generalize ids[j] = y at *
                go_wp2_with fail
                go_region_held3 (fun V => V.cell? ⟨ib, io + j, none⟩ = some (.int .i64 y) ∧ V.cell? ⟨T, 1, none⟩ = some (.int .i64 tmem)) (first | assumption | go_keep) (fail)
                go_wp2_with fail
                go_roundg (ids.length - (j + 1))
                case measure => omega
                case rel => exact ⟨j + 1, by omega, Nat.le_refl _, by go_num, by first | exact HBJ.out | exact HBJ.out.drew | exact below_drewN HBJ.out _⟩
              · have hjl' : ¬ (j : Int) < (ids.length : Int) := by omega
                have HRJ := hid (HR4.out.under HBJ.out)
                have t1j := kept_cell HBJ.out t1
                have hbz : W1.heap.size ≤ wr.heap.size := by obtain ⟨X, h, _⟩ := HRJ.out.is; exact h.below.size
                have HX : Hid ((wr.alloc (.cells #[.int .i64 tmem] 3)).ownsRow W1.heap.size 3 1 (.slice va ids.length vc) ids.length (vals ids)) := HRJ.out.row.alloc _
                have HN1 : Hid (∀ j u, ([.int .i64 tmem] : List Value)[j]? = some u → (wr.alloc (.cells #[.int .i64 tmem] 3)).cell? ((⟨wr.heap.size, 0, none⟩ : Addr).add j) = some u) := fun j u hu => by
                  cases j with
                  | zero => simp at hu; subst hu; rw [add_at]; exact cell_blk (heap_alloc_new wr (.cells #[.int .i64 tmem] 3)) 0 _ rfl
                  | succ j => simp at hu
                have HO1 : Hid (∀ u ∈ ([.int .i64 tmem] : List Value), u.oneCell' = true) := fun u hu => by simp at hu; subst hu; rfl
                go_wp2_with (at_builtin; go_loud (refine wpList_append_own_at _ rfl _ _ 30 rfl W1.heap.size 3 i0 _ 1 8 Try.underlying30 hi0 hz0 hz1 hz2 rfl (by decide) _ ids.length _ rfl HX.out ⟨wr.heap.size, 0, none⟩ 1 1 [.int .i64 tmem] rfl rfl HN1.out HO1.out (by first | omega | (unfold maxLen; omega)) (by first | omega | (unfold maxLen; omega)) (by simp; omega) ?_); intro v2 w2 hown2 hg2 _ hat2)
                have hp2 := RA.push HRJ.out HVM.out tmem hown2 hg2 hat2
                have HP2 := hid hp2
                obtain ⟨a2, c2, rfl⟩ := hp2.1.shape
                clear hp2 hown2 hg2 hat2
                go_wp2_with fail
                go_meet
                case rel => exact ⟨_, _, ids ++ [tmem], rfl, by simp; omega, HP2.out.1, (fun y hy => by
                  rcases List.mem_append.1 hy with h | h
                  · have := HIDS.out y h; have := HJJ.out; omega
                  · simp at h; have := (foundOk HOK.out [103]).ever; have := HJJ.out; omega), fun p u hp hu => HP2.out.2 p u hp (kept_cell HBJ.out hu)⟩
        case rest =>
          obtain ⟨va', vc', ids', rfl, hidl', HRB, HNI, HKC⟩ := hcut
          replace t0 := HKC.out _ _ hMT t0
          replace m0 := HKC.out _ _ (Nat.le_refl _) m0
          replace m1 := HKC.out _ _ (Nat.le_refl _) m1
          replace m2 := HKC.out _ _ (Nat.le_refl _) m2
          replace m3 := HKC.out _ _ (Nat.le_refl _) m3
          replace m4 := HKC.out _ _ (Nat.le_refl _) m4
          clear t1 HKC HR4
          go_upto_region 25 with fail
          go_cut [118] from 36 to 158 (fun s118 V => ∃ bc : Bool, s118 = .bool bc ∧ Hid (bc = true ↔ (rk = 3 ∧ rc = 2 ∧ terr = 0)) ∧ V = wc)
          case first =>
            by_cases hk3 : rk = 3
            · by_cases hc2 : rc = 2
              · by_cases he : terr = 0
                · go_wp2_with fail
                  go_meet
                  case rel => exact ⟨true, by simp [he], ⟨fun _ => ⟨hk3, hc2, he⟩, fun _ => rfl⟩, rfl⟩
                · go_wp2_with fail
                  go_meet
                  case rel => exact ⟨false, by simp [he], ⟨(fun h => by cases h), fun h => absurd h.2.2 he⟩, rfl⟩
              · go_wp2_with fail
                go_meet
                case rel => exact ⟨false, by simp [hc2], ⟨(fun h => by cases h), fun h => absurd h.2.1 hc2⟩, rfl⟩
            · go_wp2_with fail
              go_meet
              case rel => exact ⟨false, by simp [hk3], ⟨(fun h => by cases h), fun h => absurd h.1 hk3⟩, rfl⟩
          case rest =>
          obtain ⟨bc, rfl, HBC, rfl⟩ := hcut
          go_upto_if 118 with fail
          go_cut [6] from 36 to 158 (fun s6 V => ∃ last' : Int, s6 = .int .i64 last' ∧ Hid (offI (foundG S'.gs [103]) 2 = last') ∧ Hid (Below wc.heap.size wc V))
          case first =>
            cases bc with
            | false =>
              go_wp2_with fail
              go_meet
              case rel => exact ⟨last, rfl, (HFO.out (fun h => by have := HBC.out.2 h; cases this)).trans HLA.out, Below.refl _ _⟩
            | true =>
              have HCF : Hid (offI (foundG S'.gs [103]) 2 = rd ∧ ownerI (foundG S'.gs [103]) 2 = ra ∧ rb = now) := by
                obtain ⟨h1, h2, h3⟩ := HBC.out.1 rfl
                exact HFC.out h1 h2 h3
              have HOWN : Hid (∀ V, Below wc.heap.size wc V → Calls Try.prog 20 #[.pointer (some ⟨q, 0, none⟩), .string gB, .int .i64 2] V fun e w' => e = .returned (.int .i64 ra) ∧ Below V.heap.size V w') := fun V hV => by
                obtain ⟨X, hx, _⟩ := (HRB.out.under hV).is
                have := hx.owner gB gB_le 2 (sm _ (by omega))
                rw [show gB.data.toList = [103] from rfl, HCF.out.2.1] at this
                exact this
              unfold gB at HOWN
              have m1K : Hid (∀ V, Below wc.heap.size wc V → V.cell? ⟨M, 1, none⟩ = some (.int .i64 ra) ∧ V.cell? ⟨M, 2, none⟩ = some (.int .i64 rb)) := fun V hV => ⟨kept_cell hV m1, kept_cell hV m2⟩
              have hbe : rb = now := HCF.out.2.2
              subst hbe
              go_wp2_with fail
              go_region_held3 (fun V => V.cell? ⟨M, 1, none⟩ = some (.int .i64 ra) ∧ V.cell? ⟨M, 2, none⟩ = some (.int .i64 rb)) (first | assumption | go_keep)
                (first | (go_at_call 20; refine (HOWN.out _ (by first | exact Below.refl _ _ | exact (Below.refl _ _).drew)).mono ?_; rintro e w6 ⟨rfl, hb6⟩; have hB6 := (show Below wc.heap.size wc _ by first | exact Below.refl _ _ | exact (Below.refl _ _).drew).trans hb6; obtain ⟨n1, n2⟩ := m1K.out w6 hB6) | fail)
              go_wp2_with fail
              go_meet
              case rel => exact ⟨rd, rfl, HCF.out.1, by first | exact hB6 | exact hB6.drew | exact below_drewN hB6 _⟩
          case rest =>
          obtain ⟨last', rfl, HLE, HBE⟩ := hcut
          clear t0 m0 m1 m2 m3 m4
          have HRB2 := hid (HRB.out.under HBE.out)
          clear HRB HBE HBC HFC HFO HFE HFJ
          have HO : Hid (Calls Try.prog 21 #[.pointer (some ⟨q, 0, none⟩), .string gB, .int .i64 2] wc fun e w' => e = .returned (.int .i64 last') ∧ Below wc.heap.size wc w') := by
            obtain ⟨X, hx, _⟩ := HRB2.out.is
            have := hx.offset gB gB_le 2 (sm _ (by omega))
            rw [show gB.data.toList = [103] from rfl, HLE.out] at this
            exact this
          unfold gB at HO
          go_wp2_with fail
          refine HO.out.mono ?_
          rintro e V6 ⟨rfl, hb6⟩
          have HB6 := hid (HRB2.out.under hb6)
          clear hb6 HO
          have HOW : Hid (Calls Try.prog 20 #[.pointer (some ⟨q, 0, none⟩), .string gB, .int .i64 2] V6 fun e w' => e = .returned (.int .i64 (ownerI (foundG S'.gs [103]) 2)) ∧ Below V6.heap.size V6 w') := by
            obtain ⟨X, hx, _⟩ := HB6.out.is
            exact hx.owner gB gB_le 2 (sm _ (by omega))
          unfold gB at HOW
          go_wp2_with fail
          refine HOW.out.mono ?_
          rintro e V7 ⟨rfl, hb7⟩
          have HB7 := hid (HB6.out.under hb7)
          clear hb7 HOW HB6
          have HME : Hid (Calls Try.prog 22 #[.pointer (some ⟨q, 0, none⟩), .string gB] V7 fun e w' => ∃ a c, e = .returned (.slice a (idsL (foundG S'.gs [103])).length c) ∧ IL w' (.slice a (idsL (foundG S'.gs [103])).length c) (idsL (foundG S'.gs [103])) ∧ Below V7.heap.size V7 w') := by
            obtain ⟨X, hx, _⟩ := HB7.out.is
            refine (hx.members gB gB_le).mono ?_
            rintro e w' ⟨a, c, rfl, h1, _, h3⟩
            exact ⟨a, c, rfl, h1, h3⟩
          unfold gB at HME
          go_wp2_with fail
          refine HME.out.mono ?_
          rintro e V8 ⟨a8, c8, rfl, hi8, hb8⟩
          have HB8 := hid (HB7.out.under hb8)
          have HI8 := hid hi8
          have HIN : Hid (ownerI (foundG S'.gs [103]) 2 = 0 ∨ ownerI (foundG S'.gs [103]) 2 ∈ idsL (foundG S'.gs [103])) := own_in _ _ _ _
          clear hb8 hi8 HME HB7
          generalize ownerI (foundG S'.gs [103]) 2 = ob at *
          generalize idsL (foundG S'.gs [103]) = ml at *
          have hml := HI8.out.few
          go_wp2_with fail
          go_loopg [16, 17] ml.length (fun kx s16 s17 wr => ∃ (j : Nat) (bb : Bool), j ≤ ml.length ∧ ml.length - j ≤ kx ∧ s17 = .int .i64 (j : Int) ∧ s16 = .bool bb ∧ Hid (wr = V8) ∧ Hid ((ob = 0 ∨ ∃ i, i < j ∧ ml[i]? = some ob) → bb = true))
          case atStart => exact ⟨0, _, Nat.zero_le _, by omega, rfl, rfl, rfl, fun h => by
            rcases h with h | ⟨i, hi, _⟩
            · simp [h]
            · omega⟩
          case round =>
            obtain ⟨j, bb, hj, hjx, rfl, rfl, HWL, HBB⟩ := hrel
            by_cases hjl : j < ml.length
            · have hjl' : (j : Int) < (ml.length : Int) := by omega
              have hmne : ml ≠ [] := by intro e; rw [e] at hjl; simp at hjl
              have hc : ∃ b o, a8 = some ⟨b, o, none⟩ ∧ wr.cell? ⟨b, o + j, none⟩ = some (.int .i64 ml[j]) := by
                obtain ⟨⟨a', c', e', _, _, _, hat⟩, _⟩ := HI8.out
                simp only [Value.slice.injEq] at e'
                obtain ⟨b, o, e2, _, hc⟩ := hat hmne
                exact ⟨b, o, e'.1.trans e2, by rw [HWL.out]; exact hc j hjl⟩
              obtain ⟨mb, mo, rfl, hc⟩ := hc
              have HY : Hid (ml[j]? = some ml[j]) := List.getElem?_eq_getElem hjl
              generalize ml[j] = y at *
              cases bb with
              | true =>
                go_wp2_with fail
                go_roundg (ml.length - (j + 1))
                case measure => omega
                case rel => exact ⟨j + 1, true, by omega, Nat.le_refl _, by go_num, rfl, HWL.out, fun _ => rfl⟩
              | false =>
                have hob : ¬ ob = 0 := fun h => by have := HBB.out (.inl h); cases this
                have HNO : Hid (∀ i, i < j → ¬ ml[i]? = some ob) := fun i hi e => by have := HBB.out (.inr ⟨i, hi, e⟩); cases this
                by_cases heq : y = ob
                · go_wp2_with fail
                  go_roundg (ml.length - (j + 1))
                  case measure => omega
                  case rel => exact ⟨j + 1, true, by omega, Nat.le_refl _, by go_num, by simp [heq], HWL.out, fun _ => rfl⟩
                · go_wp2_with fail
                  go_roundg (ml.length - (j + 1))
                  case measure => omega
                  case rel => exact ⟨j + 1, false, by omega, Nat.le_refl _, by go_num, by simp [heq], HWL.out, fun h => by
                    rcases h with h | ⟨i, hi, e⟩
                    · exact absurd h hob
                    · by_cases hij : i = j
                      · rw [hij, HY.out] at e; exact absurd (Option.some.inj e) heq
                      · exact absurd e (HNO.out i (by omega))⟩
            · have hjl' : ¬ (j : Int) < (ml.length : Int) := by omega
              have hbt : bb = true := HBB.out (HIN.out.imp id (fun h => by
                obtain ⟨i, hi, e⟩ := List.mem_iff_getElem.1 h
                exact ⟨i, by omega, by rw [List.getElem?_eq_getElem hi, e]⟩))
              subst hbt
              have HB9 : Hid (RB W1 wr q S' (k + 1) (.slice va' ids'.length vc') ids') := by
                have e := HWL.out
                rw [e]; exact HB8.out
              go_wp2_with fail
              go_roundg (200 - (k + 1))
              case measure => omega
              case rel => exact ⟨k + 1, last', ids', S', by omega, Nat.le_refl _, by go_num, rfl, ⟨_, _, rfl⟩, by omega, ⟨HB9.out.is, HB9.out.row, HNI.out, HLE.out⟩⟩
    · by_cases hk1 : k < ops.length
      · have hk1' : (k : Int) < (ops.length : Int) := by omega
        have hk3' : ¬ (k : Int) < 200 := fun h => hlt ⟨hk1, by omega⟩
        clear hlt
        go_wp2_with fail
        go_ret
        exact ⟨rfl, HBS.out.trans (HBK.out.mono HBS.out.size)⟩
      · have hk1' : ¬ (k : Int) < (ops.length : Int) := by omega
        clear hlt
        go_wp2_with fail
        go_ret
        exact ⟨rfl, HBS.out.trans (HBK.out.mono HBS.out.size)⟩
end Go.Proofs.Ytdnpbhijjmlecaa
