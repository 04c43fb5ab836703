/- The document's Join: a new group. -/
import Derived.Test.YtdnpbhijjmlecaaZ18
import Derived.Test.YtdnpbhijjmlecaaZ22
import Derived.Test.YtdnpbhijjmlecaaZ24
import Derived.Test.YtdnpbhijjmlecaaZ9
import Derived.BigQuiet
import Derived.Deep.CutRange
import Derived.Deep.CutBlock
namespace Go.Proofs.Ytdnpbhijjmlecaa
open Go.RowKit Go.Maps
set_option maxRecDepth 100000
set_option linter.unusedSimpArgs false
set_option linter.unusedVariables false

theorem plE_at {es : List Ent} {n : ByteArray} {k : Nat} (h : ∀ e ∈ es.take k, before e.n n = true) (hk : k < es.length) (hb : before es[k].n n = false) : placeE es n = k := by
  unfold placeE
  have e : es = es.take k ++ es[k] :: es.drop (k + 1) := by
    have := List.take_append_drop k es
    rw [List.drop_eq_getElem_cons hk] at this
    exact this.symm
  generalize es[k] = y at *
  rw [e, List.takeWhile_append_of_pos h, List.takeWhile_cons_of_neg (by simp [hb]), List.append_nil, List.length_take]
  omega
theorem plE_all {es : List Ent} {n : ByteArray} (h : ∀ e ∈ es, before e.n n = true) : placeE es n = es.length := by
  unfold placeE
  have := List.takeWhile_append_of_pos (l₂ := []) h
  rw [List.append_nil, List.takeWhile_nil, List.append_nil] at this
  rw [this]
set_option maxHeartbeats 3200000 in
theorem rj_new {w : World} {r : Nat} {vl : Value} {es : List Ent} {ep : Int} (h : DC w r vl es ep) (hf : es.length ≤ 1000) (m : Rc) (la : Option Addr) (lc : Nat) (hl : IL w (.slice la m.list.length lc) m.list) (hnm : m.name.size ≤ maxLen) (hn : nameB m.name = true) (hr : riseB 0 m.list = true) (ha : m.a = 0) (hx : findX es m.name = none) (h8 : es.length < 8) (hlr : In (fun k => k ≠ r) (.slice la m.list.length lc) m.list) : Calls Try.prog 25 #[.pointer (some ⟨r, 0, none⟩), recV m (.slice la m.list.length lc)] w fun e w' => ∃ (b : Nat) (vl' vm' vp' : Value), Keeps (fun k => k = r) w w' ∧ w'.heap[r]? = some (.cells #[vl', .int .i64 ep] 29) ∧ w'.ownsRow 0 57 1 vl' (insX es (placeE es m.name) ⟨b, m.name, vm', vp', .slice none 0 0, .slice none 0 0, joinDD Dg.zero m⟩).length (ptrs (insX es (placeE es m.name) ⟨b, m.name, vm', vp', .slice none 0 0, .slice none 0 0, joinDD Dg.zero m⟩)) ∧ DgR w' b m.name vm' vp' (.slice none 0 0) (.slice none 0 0) (joinDD Dg.zero m) ∧ w.heap.size ≤ b ∧ (∀ k, vm'.ownBlock = some k → w.heap.size ≤ k ∧ k ≠ b) ∧ (∀ k, vl'.ownBlock = some k → w.heap.size ≤ k ∧ k ≠ b ∧ vm'.ownBlock ≠ some k) ∧ In (fun k => w.heap.size ≤ k ∧ k ≠ b ∧ vm'.ownBlock ≠ some k ∧ vl'.ownBlock ≠ some k) vp' m.list ∧ ToldP (fun b => w.heap.size ≤ b) w' ⟨0, 1, 1, 0, partsD [1] m.list 1⟩ e := by
  have HNM := hid hn
  have HRS := hid hr
  clear hn hr
  have HFX := hid hx
  have HA0 := hid ha
  have H8 := hid h8
  have HLR := hid hlr
  clear hx ha h8 hlr
  have HC := hid h
  have hT := tb8_new (fun _ => False) w (recA m (.slice la m.list.length lc)) zTd
  have HT := hid hT
  unfold recV recA zTd at *
  go_enter Try.func25, Try.ntmps25
  go_upto_region 1 with fail
  generalize (w.alloc (.cells #[.int .i64 m.kind, .int .i64 m.a, .int .i64 m.b, .int .i64 m.c, .int .i64 m.d, .string m.name, .string m.text, .slice la m.list.length lc] 32)).alloc (.cells #[.int .i64 0, .int .i64 0, .int .i64 0, .int .i64 0, .slice none 0 0] 38) = W at *
  have a5 := cell_blk HT.out.x 5 _ rfl
  have a7 := cell_blk HT.out.x 7 _ rfl
  have HRI := hid (rright_any m.name W hnm)
  have HLI := hid (hl.under HT.out.k.base)
  have hlf : m.list.length ≤ 17592186044415 := hl.few
  obtain ⟨NB, hNB⟩ : ∃ B, B = nameB m.name := ⟨_, rfl⟩
  have HNB := hid hNB
  rw [← hNB] at HRI
  clear hNB hT h hl hnm
  go_wp2_with fail
  refine HRI.out.mono ?_
  rintro e w1 ⟨rfl, rfl⟩
  go_wp2_with fail
  go_loopg [5, 6] m.list.length (fun kx s5 s6 wr => ∃ (k : Nat) (B : Bool), k ≤ m.list.length ∧ m.list.length - k ≤ kx ∧ s6 = .int .i64 (k : Int) ∧ s5 = .bool B ∧ Hid (B = (NB && riseB 0 (m.list.take k))) ∧ Hid (Below W.heap.size W wr))
  case atStart => exact ⟨0, NB, Nat.zero_le _, by omega, rfl, rfl, by show _ = _; simp [riseB], Below.refl _ _⟩
  case round =>
    obtain ⟨k, B, hk, hkx, rfl, rfl, HRB, HR⟩ := hrel
    have HR : Hid (True ∧ Below W.heap.size W wr) := ⟨trivial, HR.out⟩
    clear a5 a7
    have a7 := cell_blk (HT.out.under HR.out.2).x 7 _ rfl
    by_cases hlt : k < m.list.length
    · have hlt' : (k : Int) < (m.list.length : Int) := by omega
      have HS := hid (riseB_take m.list k hlt)
      obtain ⟨lb, lo, rfl, hlc⟩ := (HLI.out.under HR.out.2).cellAt k hlt
      have HLC := hid fun j hj => IL.cellAt' (HLI.out.under HR.out.2) j (List.getElem?_eq_getElem hj)
      have HLT := hid hlt
      have HPZ : Hid (∀ z, (∃ h : k - 1 < m.list.length, m.list[k - 1] = z) → riseB 0 (m.list.take (k + 1)) = (riseB 0 (m.list.take k) && decide (1 ≤ m.list[k] ∧ m.list[k] ≤ 16 ∧ (k = 0 ∨ z < m.list[k])))) := fun z hz => by
        obtain ⟨h, rfl⟩ := hz
        exact HS.out
      clear HS
      generalize m.list[k] = y at *
      have hy1 : ∀ b : Bool, ¬ 1 ≤ y → riseB 0 (m.list.take (k + 1)) = false := fun _ h => by
        rw [HPZ.out m.list[k - 1] ⟨by omega, rfl⟩, decide_eq_false (fun e => h e.1), Bool.and_false]
      have HY1 := hid hy1
      have hy2 : ∀ b : Bool, ¬ y ≤ 16 → riseB 0 (m.list.take (k + 1)) = false := fun _ h => by
        rw [HPZ.out m.list[k - 1] ⟨by omega, rfl⟩, decide_eq_false (fun e => h e.2.1), Bool.and_false]
      have HY2 := hid hy2
      clear hy1 hy2
      cases B with
      | false =>
        go_wp2_with fail
        go_quiet (fail)
        go_wp2_with fail
        go_roundg (m.list.length - (k + 1))
        case measure => omega
        case rel => exact ⟨k + 1, false, by omega, Nat.le_refl _, by go_num, by first | rfl | exact congrArg Value.bool (decide_eq_false (by omega)), by show _ = _; have h := HRB.out; rw [HPZ.out m.list[k - 1] ⟨by omega, rfl⟩, ← Bool.and_assoc, ← h]; rfl, by first | exact HR.out.2 | exact HR.out.2.drew | exact below_drewN HR.out.2 _⟩
      | true =>
        have hnb : NB = true ∧ riseB 0 (m.list.take k) = true := by have h := HRB.out; simpa using h.symm
        have HNT := hid hnb.1
        have HRT := hid hnb.2
        clear hnb
        by_cases y1 : 1 ≤ y
        · have y1' : ¬ y < 1 := by omega
          by_cases y2 : y ≤ 16
          · have y2' : ¬ 16 < y := by omega
            by_cases k0 : k = 0
            · subst k0
              have hl0 : (0 : Int) < (m.list.length : Int) := by omega
              rw [Nat.add_zero] at hlc
              clear hlt hlt'
              go_wp2_with fail
              go_quiet (fail)
              go_wp2_with fail
              go_roundg (m.list.length - (0 + 1))
              case measure => omega
              case rel => exact ⟨0 + 1, true, by omega, Nat.le_refl _, by go_num, by first | rfl | exact congrArg Value.bool (decide_eq_false (by omega)), by show _ = _; rw [HPZ.out m.list[0] ⟨HLT.out, rfl⟩, HRT.out, HNT.out, decide_eq_true (by first | exact ⟨y1, y2, .inl rfl⟩ | simp [y1, y2])]; rfl, by first | exact HR.out.2 | exact HR.out.2.drew | exact below_drewN HR.out.2 _⟩
            · obtain ⟨j, rfl⟩ : ∃ j, k = j + 1 := ⟨k - 1, by omega⟩
              have hj : j < m.list.length := by omega
              have hlz := HLC.out j hj
              have HP2 := hid (HPZ.out m.list[j] ⟨by omega, rfl⟩)
              generalize m.list[j] = z at *
              have hkz : ¬ ((j : Int) + 1 = 0) := by omega
              have hkw : IntKind.i64.wrap (j : Int) = (j : Int) := IntWalk.i64_in _ ⟨by omega, by omega⟩
              have hj0 : (0 : Int) ≤ (j : Int) := by omega
              have hj1 : (j : Int) < (m.list.length : Int) := by omega
              have hj2 : ((j : Int) + 1) - 1 = (j : Int) := by omega
              have hj3 : ((j : Int) + 1 == 0) = false := by simp; omega
              have hj4 : (0 : Int) ≤ (j : Int) + 1 := by omega
              have hj5 : (j : Int) + 1 < (m.list.length : Int) := by omega
              by_cases zy : z < y
              · have zy2 : ¬ y ≤ z := by omega
                go_wp2_with fail
                go_quiet (fail)
                go_wp2_with fail
                go_roundg (m.list.length - (j + 1 + 1))
                case measure => omega
                case rel => exact ⟨j + 1 + 1, true, by omega, Nat.le_refl _, by go_num, by first | rfl | exact congrArg Value.bool (decide_eq_false (by omega)), by show _ = _; rw [HP2.out, HRT.out, HNT.out, decide_eq_true (by first | exact ⟨y1, y2, .inr zy⟩ | simp [y1, y2, zy])]; rfl, by first | exact HR.out.2 | exact HR.out.2.drew | exact below_drewN HR.out.2 _⟩
              · have zy2 : y ≤ z := by omega
                go_wp2_with fail
                go_quiet (fail)
                go_wp2_with fail
                go_roundg (m.list.length - (j + 1 + 1))
                case measure => omega
                case rel => exact ⟨j + 1 + 1, false, by omega, Nat.le_refl _, by go_num, by first | rfl | exact congrArg Value.bool (decide_eq_false (by omega)), by show _ = _; rw [HP2.out, HRT.out, HNT.out, decide_eq_false (by omega)]; rfl, by first | exact HR.out.2 | exact HR.out.2.drew | exact below_drewN HR.out.2 _⟩
          · have y2' : 16 < y := by omega
            have y2d : decide (y ≤ 16) = false := by simpa using y2
            go_wp2_with fail
            go_quiet (fail)
            go_wp2_with fail
            go_roundg (m.list.length - (k + 1))
            case measure => omega
            case rel => exact ⟨k + 1, false, by omega, Nat.le_refl _, by go_num, by first | rfl | exact congrArg Value.bool (decide_eq_false (by omega)), by show _ = _; rw [HY2.out true y2, Bool.and_false], by first | exact HR.out.2 | exact HR.out.2.drew | exact below_drewN HR.out.2 _⟩
        · have y1' : y < 1 := by omega
          have y1d : decide (1 ≤ y) = false := by simpa using y1
          go_wp2_with fail
          go_quiet (fail)
          go_wp2_with fail
          go_roundg (m.list.length - (k + 1))
          case measure => omega
          case rel => exact ⟨k + 1, false, by omega, Nat.le_refl _, by go_num, by first | rfl | exact congrArg Value.bool (decide_eq_false (by omega)), by show _ = _; rw [HY1.out true y1, Bool.and_false], by first | exact HR.out.2 | exact HR.out.2.drew | exact below_drewN HR.out.2 _⟩
    · have hlt' : ¬ (k : Int) < (m.list.length : Int) := by omega
      have HGB : Hid (B = (NB && riseB 0 m.list)) := by have h := HRB.out; rw [List.take_of_length_le (by omega)] at h; exact h
      have HB : Hid (Below W.heap.size W wr) := HR.out.2
      clear HRB HR hk hkx hlt
      clear a7
      have HTr := hid (HT.out.under HB.out)
      have a1 := cell_blk HTr.out.x 1 _ rfl
      have a5 := cell_blk HTr.out.x 5 _ rfl
      have a7 := cell_blk HTr.out.x 7 _ rfl
      have z0 := cell_blk HTr.out.z 0 _ rfl
      have z1 := cell_blk HTr.out.z 1 _ rfl
      have z2 := cell_blk HTr.out.z 2 _ rfl
      have z3 := cell_blk HTr.out.z 3 _ rfl
      have z4 := cell_blk HTr.out.z 4 _ rfl
      have fz := frz_blk HTr.out.z
      have hB : B = true := by have h := HGB.out; rw [h, ← HNB.out.symm, HNM.out, HRS.out]; rfl
      subst hB
      clear HGB
      have HF := hid (rfind_any (HC.out.under HTr.out.k.base) hf m.name)
      rw [HFX.out] at HF
      unfold findV at HF
      rw [HA0.out] at a1
      have d0 := (HC.out.under HTr.out.k.base).c0
      obtain ⟨va, vc, hvl, _⟩ := row_shape HC.out.row
      rw [hvl] at d0
      clear hvl
      have h8 : (es.length : Int) < 8 := by have := H8.out; omega
      have h8' : ¬ (8 : Int) ≤ (es.length : Int) := by omega
      go_wp2_with fail
      refine HF.out.mono ?_
      rintro e w1 ⟨rfl, rfl⟩
      go_upto_if 125 with fail
      clear d0 h8 h8'
      go_cut [7, 9, 10] from 126 to 177 (fun s7 s9 s10 V => ∃ (x : Ent) (vl' : Value), s7 = .pointer (some ⟨x.b, 0, none⟩) ∧ Hid (x.n = m.name ∧ x.vm = .slice none 0 0 ∧ x.vp = .slice none 0 0 ∧ x.vo = .slice none 0 0 ∧ x.vn = .slice none 0 0 ∧ x.d = Dg.zero) ∧ Hid (NewP wr V r vl' es (placeE es m.name) x ep))
      case first =>
        go_upto_region 19 with fail
        have HBn : Hid (Below wr.heap.size wr (wr.alloc (.cells #[.string m.name, .int .i64 0, .int .i64 0, .slice none 0 0, .slice none 0 0, .slice none 0 0, .slice none 0 0] 61))) := (Below.refl _ _).alloc (Nat.le_refl _) _
        have HXn : Hid ((wr.alloc (.cells #[.string m.name, .int .i64 0, .int .i64 0, .slice none 0 0, .slice none 0 0, .slice none 0 0, .slice none 0 0] 61)).heap[wr.heap.size]? = some (.cells #[.string m.name, .int .i64 0, .int .i64 0, .slice none 0 0, .slice none 0 0, .slice none 0 0, .slice none 0 0] 61)) := heap_alloc_new _ _
        have HSn : Hid ((wr.alloc (.cells #[.string m.name, .int .i64 0, .int .i64 0, .slice none 0 0, .slice none 0 0, .slice none 0 0, .slice none 0 0] 61)).heap.size = wr.heap.size + 1) := by show _ = _; simp
        obtain ⟨B, hBe⟩ : ∃ B, B = wr.heap.size := ⟨_, rfl⟩
        have HBE := hid hBe
        generalize wr.alloc (.cells #[.string m.name, .int .i64 0, .int .i64 0, .slice none 0 0, .slice none 0 0, .slice none 0 0, .slice none 0 0] 61) = Wn at *
        rw [← hBe] at HXn HSn ⊢
        clear hBe
        have HCn := hid (HC.out.under (HTr.out.k.base.trans (HBn.out.mono HTr.out.k.base.size)))
        have HTn := hid (HTr.out.under HBn.out)
        clear a1 a5 a7 z0 z1 z2 z3 z4 fz
        obtain ⟨va, vc, hvl, hvc1, hvc2, hvc3, hvg⟩ := row_shape HCn.out.row
        have HVG := hid hvg
        have HVC := hid (And.intro hvc1 (And.intro hvc2 hvc3))
        subst hvl
        clear hvg hvc1 hvc2 hvc3
        go_upto_block 3 with fail
        go_cut [9] from 130 to 154 (fun s9 V => ∃ i : Nat, s9 = .int .i64 (i : Int) ∧ i ≤ es.length ∧ Hid (i = placeE es m.name) ∧ Hid (Below Wn.heap.size Wn V))
        case first =>
          go_wp2_with fail
          go_loopg [9] es.length (fun kx s9 wl => ∃ k : Nat, k ≤ es.length ∧ es.length - k ≤ kx ∧ s9 = .int .i64 (k : Int) ∧ Hid (∀ e ∈ es.take k, before e.n m.name = true) ∧ Hid (Below Wn.heap.size Wn wl))
          case atStart => exact ⟨0, Nat.zero_le _, by omega, rfl, by show ∀ m ∈ _, _; simp, Below.refl _ _⟩
          case round =>
            obtain ⟨k, hk, hkx, rfl, HM, HBl⟩ := hrel
            have hcl := HCn.out.under HBl.out
            have d0 := hcl.c0
            have a5 := cell_blk (HTn.out.under HBl.out).x 5 _ rfl
            by_cases hlt : k < es.length
            · have hlt' : (k : Int) < (es.length : Int) := by omega
              have hk0 : (0 : Int) ≤ (k : Int) := by omega
              obtain ⟨gg, hgg, hcg⟩ := hcl.at k hlt
              subst hgg
              have hn0 := (hcl.each es[k] (by simp)).c0
              have HT : Hid (es.take (k + 1) = es.take k ++ [es[k]]) := List.take_succ_eq_append_getElem hlt
              have HPN : Hid (before es[k].n m.name = false → k = placeE es m.name) := fun h => (plE_at HM.out hlt h).symm
              clear hcl
              generalize es[k] = y at *
              have HLE : Hid (Op.bytesLess y.n.toList m.name.toList = before y.n m.name) := by show _ = _; rw [less_before, ByteArray.toList_eq, ByteArray.toList_eq]; rfl
              cases hb : before y.n m.name with
              | true =>
                have hbl : Op.bytesLess y.n.toList m.name.toList = true := by rw [HLE.out, hb]
                go_wp2_with fail
                go_quiet (fail)
                go_wp2_with fail
                go_roundg (es.length - (k + 1))
                case measure => omega
                case rel => exact ⟨k + 1, by omega, Nat.le_refl _, by go_num, by
                  show ∀ m ∈ _, _
                  rw [HT.out]
                  intro z hz
                  rcases List.mem_append.1 hz with hz | hz
                  · exact HM.out z hz
                  · obtain rfl := List.mem_singleton.1 hz; exact hb, by first | exact HBl.out | exact HBl.out.drew | exact below_drewN HBl.out _⟩
              | false =>
                have hbl : Op.bytesLess y.n.toList m.name.toList = false := by rw [HLE.out, hb]
                go_wp2_with fail
                go_quiet (fail)
                go_wp2_with fail
                go_meet
                case rel => exact ⟨k, rfl, by omega, HPN.out hb, by first | exact HBl.out | exact HBl.out.drew | exact below_drewN HBl.out _⟩
            · have hlt' : ¬ (k : Int) < (es.length : Int) := by omega
              have hlt2 : decide ((k : Int) < (es.length : Int)) = false := by simpa using hlt'
              have HPN : Hid (k = placeE es m.name) := by have h := HM.out; rw [List.take_of_length_le (by omega)] at h; rw [show k = es.length by omega]; exact (plE_all h).symm
              clear hcl
              go_wp2_with fail
              go_quiet (fail)
              go_wp2_with fail
              go_meet
              case rel => exact ⟨k, rfl, by omega, HPN.out, by first | exact HBl.out | exact HBl.out.drew | exact below_drewN HBl.out _⟩
        case rest =>
          obtain ⟨i, rfl, hi, HI, HBc⟩ := hcut
          generalize wc = wk at *
          have HCc := hid (HCn.out.under HBc.out)
          have HXc : Hid (wk.heap[B]? = some (.cells #[.string m.name, .int .i64 0, .int .i64 0, .slice none 0 0, .slice none 0 0, .slice none 0 0, .slice none 0 0] 61)) := (HBc.out.block B (by have := HSn.out; omega)).trans HXn.out
          have hBlt : B < wk.heap.size := (Array.getElem?_eq_some_iff.1 HXc.out).1
          have hrB : r < B := by have := (Array.getElem?_eq_some_iff.1 HC.out.cells).1; have := HBE.out; have := HTr.out.s; omega
          have HRW := hid HCc.out.row
          have HIE := hid hi
          have d0 := HCc.out.c0
          have HB0 : Hid (Below wk.heap.size wk (wk.alloc (.cells #[] 57))) := (Below.refl _ _).alloc (Nat.le_refl _) _
          have d0n := (HCc.out.under HB0.out).c0
          have HVC2 := HVC.out
          generalize hL : es.length = L at *
          have HLE := hid hL
          clear hL
          obtain ⟨j0, hj0, hj1, hj2, hj3⟩ := info57
          have hvc1' : (L : Int) ≤ (vc : Int) := by omega
          have hi1 : (i : Int) ≤ (vc : Int) := by omega
          have hi2 : (i : Int) ≤ (L : Int) := by omega
          have hi0 : (0 : Int) ≤ (i : Int) := by omega
          have HR0 := hid (row_new57 wk)
          have hrw : r < wk.heap.size := by omega
          have hrw2 : ¬ r = wk.heap.size := by omega
          have hrw3 : ¬ wk.heap.size = r := by omega
          go_upto_region 22 with fail
          go_cut [9, 10] from 154 to 162 (fun s9 s10 V => ∃ (a10 : Option Addr) (c10 : Nat), s9 = .int .i64 (i : Int) ∧ s10 = .slice a10 i c10 ∧ Hid (V.ownsRow wk.heap.size 57 1 (.slice a10 i c10) i (ptrs (es.take i)) ∧ Below wk.heap.size wk V))
          case first =>
            rcases row_two HRW.out with ⟨e1, e2⟩ | ⟨g, c, e1, e2, e3⟩
            · have hes : es = [] := List.eq_nil_of_length_eq_zero (by rw [HLE.out]; exact e2)
              have hi00 : i = 0 := by omega
              simp only [Value.slice.injEq] at e1
              obtain ⟨hva, _, hvc0⟩ := e1
              subst hva hvc0 hi00 e2
              have HES := hid hes
              clear hes hvc1' HVC2
              go_wp2_with (at_builtin; go_loud (refine wpList_append_own_none rfl _ _ 27 rfl wk.heap.size 57 j0 1 Try.underlying27 hj0 _ 0 [] rfl HR0.out rfl ?_))
              go_meet
              case rel => exact ⟨_, _, by simp, rfl, by simpa [ptrs] using HR0.out, HB0.out⟩
            · simp only [Value.slice.injEq] at e1
              obtain ⟨hva, _, hvc0⟩ := e1
              subst hva hvc0
              have hil : i ≤ es.length := by rw [HLE.out]; exact HIE.out
              have HNW : Hid (∀ j u, (ptrs (es.take i))[j]? = some u → (wk.alloc (.cells #[] 57)).cell? ((⟨g, 0, none⟩ : Addr).add j) = some u) := fun j u hu => by
                have hu2 : (ptrs es)[j]? = some u := by
                  have : (ptrs (es.take i)) = (ptrs es).take i := by simp [ptrs]
                  rw [this, List.getElem?_take] at hu
                  split at hu
                  · exact hu
                  · cases hu
                have := World.ownsRow.cells (HCc.out.under HB0.out).row (g := g) rfl j u hu2
                exact this
              have HON := hid (ptrs_one (es.take i))
              have HLn : Hid ((ptrs (es.take i)).length = i * 1) := by show _ = _; rw [ptrs_len, List.length_take]; omega
              go_wp2_with (at_builtin; go_loud (refine wpList_append_own_at _ rfl _ _ 27 rfl wk.heap.size 57 j0 _ 1 8 Try.underlying27 hj0 hj1 hj2 hj3 rfl (by decide) _ 0 [] rfl HR0.out ⟨g, 0, none⟩ i vc (ptrs (es.take i)) rfl HLn.out HNW.out HON.out (by unfold maxLen; omega) (by omega) (by simp) ?_); intro x2 w2 hown2 hg2 _ _)
              have HO2 := hid hown2
              have HB2 := hid (HB0.out.grown hg2 HB0.out.size (fun j hj => by cases hj; exact Nat.le_refl _))
              obtain ⟨a10, c10, ha10, _⟩ := row_shape (row_base hown2)
              subst ha10
              go_meet
              case rel => exact ⟨a10, c10, by simp, by simp, by simpa using HO2.out, HB2.out⟩
          case rest =>
            obtain ⟨a10, c10, rfl, rfl, H10⟩ := hcut
            have hcs := H10.out.2.size
            have HN1 : Hid (∀ j u, ([.pointer (some ⟨B, 0, none⟩)] : List Value)[j]? = some u → (wc.alloc (.cells #[.pointer (some ⟨B, 0, none⟩)] 57)).cell? ((⟨wc.heap.size, 0, none⟩ : Addr).add j) = some u) := fun j u hu => by
              rw [add_at, Nat.zero_add]
              refine cell_blk (heap_alloc_new wc (.cells #[.pointer (some ⟨B, 0, none⟩)] 57)) j u ?_
              rw [← hu]; simp
            have HO1 : Hid (∀ u ∈ ([.pointer (some ⟨B, 0, none⟩)] : List Value), u.oneCell' = true) := fun u hu => by simp at hu; rcases hu with rfl; rfl
            have HX1 : Hid ((wc.alloc (.cells #[.pointer (some ⟨B, 0, none⟩)] 57)).ownsRow wk.heap.size 57 1 (.slice a10 i c10) i (ptrs (es.take i))) := H10.out.1.alloc _
            have HBa : Hid (Below wk.heap.size wk (wc.alloc (.cells #[.pointer (some ⟨B, 0, none⟩)] 57))) := H10.out.2.alloc hcs _
            have HOUT : Hid (∀ x2 w2, w2.ownsRow wk.heap.size 57 1 x2 (i + 1) (ptrs (es.take i) ++ [.pointer (some ⟨B, 0, none⟩)]) → (wc.alloc (.cells #[.pointer (some ⟨B, 0, none⟩)] 57)).grownBy w2 (Value.slice a10 i c10).ownBlock → Below wk.heap.size wk w2 ∧ ∃ ga gc, x2 = .slice ga (i + 1) gc) := fun x2 w2 h1 h2 => by
              obtain ⟨ga, gc, ge, _⟩ := row_shape (row_base h1)
              exact ⟨HBa.out.grown h2 HBa.out.size (fun j hj => (World.ownsRow.lt HX1.out j hj).1), ga, gc, ge⟩
            clear d0 d0n
            go_upto_region 24 with (at_builtin; go_loud (refine wpList_append_own_at _ rfl _ _ 27 rfl wk.heap.size 57 j0 _ 1 8 Try.underlying27 hj0 hj1 hj2 hj3 rfl (by decide) _ i (ptrs (es.take i)) rfl HX1.out ⟨wc.heap.size, 0, none⟩ 1 1 [.pointer (some ⟨B, 0, none⟩)] rfl rfl HN1.out HO1.out (by unfold maxLen; omega) (by omega) (by simp; omega) ?_); intro x2 w2 hown2 hg2 _ _; obtain ⟨o1, ga, gc, rfl⟩ := HOUT.out x2 w2 hown2 hg2; have HO2 := hid hown2; have HBB := hid o1; have d0 := (HCc.out.under o1).c0; have fr := (frz_blk (HCc.out.under o1).cells); clear hown2 hg2 o1)
            have HXX : Hid (∀ V, Below wk.heap.size wk V → V.heap[B]? = some (.cells #[.string m.name, .int .i64 0, .int .i64 0, .slice none 0 0, .slice none 0 0, .slice none 0 0, .slice none 0 0] 61)) := fun V hV => (hV.block B (by omega)).trans HXc.out
            have HNEW : Hid (∀ (V V2 : World) (vl' : Value), Below wk.heap.size wk V → V.ownsRow wk.heap.size 57 1 vl' (L + 1) ((ptrs (es.take i) ++ [.pointer (some ⟨B, 0, none⟩)]) ++ ptrs (es.drop i)) → V2 = V.setCell ⟨r, 0, none⟩ vl' → ∃ (x : Ent) (vl2 : Value), (Value.pointer (some ⟨B, 0, none⟩)) = .pointer (some ⟨x.b, 0, none⟩) ∧ Hid (x.n = m.name ∧ x.vm = .slice none 0 0 ∧ x.vp = .slice none 0 0 ∧ x.vo = .slice none 0 0 ∧ x.vn = .slice none 0 0 ∧ x.d = Dg.zero) ∧ Hid (NewP wr V2 r vl2 es (placeE es m.name) x ep)) := fun V V2 vl' hV hrow hV2 => by
              have hwk : Below wr.heap.size wr wk := HBn.out.trans (HBc.out.mono HBn.out.size)
              refine ⟨⟨B, m.name, .slice none 0 0, .slice none 0 0, .slice none 0 0, .slice none 0 0, Dg.zero⟩, vl', rfl, ⟨rfl, rfl, rfl, rfl, rfl, rfl⟩, ?_⟩
              rw [← HI.out]
              exact newP_made (B := wk.heap.size) (HC.out.under HTr.out.k.base) (hwk.trans (hV.mono hwk.size)) HBE.out (dg_zero (HXX.out V hV)) (by rw [insX_ptrs, insX_len (by rw [HLE.out]; exact HIE.out), HLE.out]; exact hrow) (by have := HBE.out; omega) rfl rfl rfl rfl rfl hV2
            rcases row_two HRW.out with ⟨e1, e2⟩ | ⟨g, c, e1, e2, e3⟩
            · have hes : es = [] := List.eq_nil_of_length_eq_zero (by rw [HLE.out]; exact e2)
              have hi00 : i = 0 := by omega
              simp only [Value.slice.injEq] at e1
              obtain ⟨hva, _, hvc0⟩ := e1
              subst hva hvc0 hi00 e2
              have HES := hid hes
              clear hes hvc1' HVC2
              go_wp2_with (at_builtin; go_loud (refine wpList_append_own_none rfl _ _ 27 rfl wk.heap.size 57 j0 1 Try.underlying27 hj0 _ _ _ rfl HO2.out rfl ?_))
              go_meet
              case rel => exact HNEW.out _ _ _ HBB.out (by simpa [ptrs, HES.out] using HO2.out) rfl
            · simp only [Value.slice.injEq] at e1
              obtain ⟨hva, _, hvc0⟩ := e1
              subst hva hvc0
              have hrs := HBB.out.size
              have HON2 := hid (ptrs_one (es.drop i))
              have HLn2 : Hid ((ptrs (es.drop i)).length = (L - i) * 1) := by show _ = _; rw [ptrs_len, List.length_drop, HLE.out]; omega
              have HCELL : Hid (∀ j u, (ptrs (es.drop i))[j]? = some u → w2.cell? ((⟨g, i, none⟩ : Addr).add j) = some u) := fun j u hu => by
                have hu2 : (ptrs es)[i + j]? = some u := by
                  have : (ptrs (es.drop i)) = (ptrs es).drop i := by simp [ptrs]
                  rw [this, List.getElem?_drop] at hu
                  exact hu
                have := World.ownsRow.cells (HCc.out.under HBB.out).row (g := g) rfl (i + j) u hu2
                rw [add_at, Nat.zero_add] at this
                rw [add_at]
                exact this
              have hiN : i ≤ L := HIE.out
              have HFIN : Hid (∀ x3 w3, w3.ownsRow wk.heap.size 57 1 x3 (i + 1 + (L - i)) ((ptrs (es.take i) ++ [.pointer (some ⟨B, 0, none⟩)]) ++ ptrs (es.drop i)) → w2.grownBy w3 (Value.slice ga (i + 1) gc).ownBlock → w3.ownsRow wk.heap.size 57 1 x3 (L + 1) ((ptrs (es.take i) ++ [.pointer (some ⟨B, 0, none⟩)]) ++ ptrs (es.drop i)) ∧ Below wk.heap.size wk w3 ∧ (∃ a c, x3 = .slice a (i + 1 + (L - i)) c) ∧ (∀ j, w3.frozen? ⟨r, j, none⟩ = false) ∧ w3.cell? ⟨r, 0, none⟩ = some (.slice (some ⟨g, 0, none⟩) L vc)) := fun x3 w3 h1 h2 => by
                have e : i + 1 + (L - i) = L + 1 := by omega
                have hb := HBB.out.grown h2 HBB.out.size (fun j hj => (World.ownsRow.lt HO2.out j hj).1)
                obtain ⟨a, c, e2, _⟩ := row_shape (row_base h1)
                refine ⟨by rw [← e]; exact h1, hb, ⟨a, c, e2⟩, frz_blk (HCc.out.under hb).cells, ?_⟩
                have := (HCc.out.under hb).c0
                exact this
              by_cases hcap : vc = i
              · have hLi : L = i := by omega
                subst hcap hLi
                have hdn : Hid (∀ j u, (ptrs (es.drop L))[j]? = some u → w2.cell? ((⟨g, 0, none⟩ : Addr).add j) = some u) := fun j u hu => by
                  rw [List.drop_of_length_le (by rw [HLE.out]; omega)] at hu
                  simp [ptrs] at hu
                go_wp2_with (at_builtin; go_loud (refine wpList_append_own_at _ rfl _ _ 27 rfl wk.heap.size 57 j0 _ 1 8 Try.underlying27 hj0 hj1 hj2 hj3 rfl (by decide) _ _ _ rfl HO2.out ⟨g, 0, none⟩ 0 0 (ptrs (es.drop L)) rfl (by rw [HLn2.out]; omega) hdn.out HON2.out (by unfold maxLen; omega) (by omega) (by omega) ?_); intro x3 w3 hown3 hg3 _ _; obtain ⟨p1, p2, ⟨a3, c3, rfl⟩, p4, p5⟩ := HFIN.out x3 w3 (by simpa using hown3) hg3; have HP1 := hid p1; have HP2 := hid p2; clear hown3 hg3 p1 p2)
                go_meet
                case rel => exact HNEW.out _ _ _ HP2.out HP1.out (by simp)
              · have hcap2 : ¬ i = vc := fun e => hcap e.symm
                have hcap3 : i < vc := by omega
                go_wp2_with (at_builtin; go_loud (refine wpList_append_own_at _ rfl _ _ 27 rfl wk.heap.size 57 j0 _ 1 8 Try.underlying27 hj0 hj1 hj2 hj3 rfl (by decide) _ _ _ rfl HO2.out ⟨g, i, none⟩ (L - i) (vc - i) (ptrs (es.drop i)) rfl HLn2.out HCELL.out HON2.out (by unfold maxLen; omega) (by omega) (by omega) ?_); intro x3 w3 hown3 hg3 _ _; obtain ⟨p1, p2, ⟨a3, c3, rfl⟩, p4, p5⟩ := HFIN.out x3 w3 hown3 hg3; have HP1 := hid p1; have HP2 := hid p2; clear hown3 hg3 p1 p2)
                go_meet
                case rel => exact HNEW.out _ _ _ HP2.out HP1.out rfl
      case rest =>
        obtain ⟨x, vl', rfl, HXE, HNP⟩ := hcut
        have HSE : Hid (x.vm.ownBlock ≠ some x.b ∧ x.vo.ownBlock ≠ some x.b ∧ x.vn.ownBlock ≠ some x.b ∧ (∀ k, x.vm.ownBlock = some k → x.vo.ownBlock ≠ some k) ∧ (∀ k, x.vm.ownBlock = some k → x.vn.ownBlock ≠ some k)) := by
          obtain ⟨_, e1, _, e3, e4, _⟩ := HXE.out
          show _ ∧ _
          rw [e1, e3, e4]
          exact ⟨by simp [Value.ownBlock], by simp [Value.ownBlock], by simp [Value.ownBlock], fun k h => by simp [Value.ownBlock] at h, fun k h => by simp [Value.ownBlock] at h⟩
        have HVN : Hid (∀ k, x.vm.ownBlock ≠ some k) := fun k => by rw [HXE.out.2.1]; simp [Value.ownBlock]
        have HPA : Hid (In (fun k => x.vm.ownBlock ≠ some k ∧ k ≠ x.b) x.vp x.d.parts) := by show In _ _ _; rw [HXE.out.2.2.1, HXE.out.2.2.2.2.2]; exact In.nil _ _
        have HIN := hid (HPA.out.mono fun k h => h.2)
        have hxz : x.d.ever = 0 ∧ x.d.gen = 0 ∧ x.d.mem = [] := by rw [HXE.out.2.2.2.2.2]; exact ⟨rfl, rfl, rfl⟩
        have HXZ := hid hxz
        have HEV : Hid (0 ≤ x.d.ever ∧ x.d.ever < 1000000) := by have := hxz.1; exact ⟨by omega, by omega⟩
        have hg : 0 ≤ x.d.gen ∧ x.d.gen ≤ 1000000 := by have := hxz.2.1; omega
        have H16 : Hid (x.d.mem.length < 16) := by show _ < _; rw [hxz.2.2]; simp
        have hsw := HTr.out.s
        have HSW := hid hsw
        have HXB : Hid (w.heap.size ≤ x.b) := by have := HNP.out.b; show _ ≤ _; omega
        have HXB2 : Hid (wr.heap.size ≤ x.b) := HNP.out.b
        have hn1 : ¬ x.b = w.heap.size := by have := HXB2.out; omega
        have hn2 : ¬ w.heap.size = x.b := by omega
        have hn3 : ¬ x.b = w.heap.size + 1 := by have := HXB2.out; omega
        have hn4 : ¬ w.heap.size + 1 = x.b := by omega
        have hrl : r < w.heap.size := (Array.getElem?_eq_some_iff.1 HC.out.cells).1
        have HRL := hid hrl
        have HT0 := hid ((HTr.out.mono (Z' := fun k => k = r) (fun _ h => h.elim)).next HNP.out.k (fun k h => .inl h) (fun h => by have : w.heap.size = r := h; omega) (fun h => by have : w.heap.size + 1 = r := h; omega))
        have hlw := HLI.out.under HB.out
        have HLB : Hid (∀ (hne : m.list ≠ []) b off n c, (Value.slice la m.list.length lc) = .slice (some ⟨b, off, none⟩) n c → ¬ wr.heap.size ≤ b) := fun hne b off n c e => by have : b < wr.heap.size := hlw.old hne b off n c e; omega
        have HLV : Hid (IL wc (.slice la m.list.length lc) m.list) := hlw.kept (X := fun k => k ≠ r ∧ k < wr.heap.size) (fun hne b off n c e => ⟨HLR.out hne b off n c e, hlw.old hne b off n c e⟩) (fun k hk => HNP.out.k.block k hk.2 hk.1) HNP.out.k.size
        have HE : Hid (DgR wc x.b x.n x.vm x.vp x.vo x.vn x.d) := HNP.out.g
        clear a1 a5 a7 z0 z1 z2 z3 z4 fz hsw hrl hlw HTr HB hxz
        have HTr := HT0
        clear HT0
        generalize wc = wr at *
        have a1 := cell_blk HTr.out.x 1 _ rfl
        have a5 := cell_blk HTr.out.x 5 _ rfl
        have a7 := cell_blk HTr.out.x 7 _ rfl
        have z0 := cell_blk HTr.out.z 0 _ rfl
        have z1 := cell_blk HTr.out.z 1 _ rfl
        have z2 := cell_blk HTr.out.z 2 _ rfl
        have z3 := cell_blk HTr.out.z 3 _ rfl
        have z4 := cell_blk HTr.out.z 4 _ rfl
        have fz := frz_blk HTr.out.z
        have c1 := HE.out.c1
        have c2 := HE.out.c2
        have c3 := HE.out.c3
        rw [HA0.out] at a1
        have fx := HE.out.fz
        obtain ⟨ev, hevE⟩ : ∃ ev, ev = x.d.ever := ⟨_, rfl⟩
        have HEVE := hid hevE
        have hev := HEV.out
        rw [← hevE] at c2 hev
        have hev1 : ¬ 1000000 ≤ ev := by omega
        have hfew := H16.out
        obtain ⟨oa, ocap, hvm, _⟩ := row_shape HE.out.mem
        have HVM := hid hvm
        have c3o : wr.cell? ⟨x.b, 3, none⟩ = some (.slice oa x.d.mem.length ocap) := by rw [← hvm]; exact c3
        have hml1 : (x.d.mem.length : Int) < 16 := by omega
        have hml2 : ¬ (16 : Int) ≤ (x.d.mem.length : Int) := by omega
        clear hvm hevE c3
        go_upto_region 29 with fail
        have hev2 : 0 ≤ ev := hev.1
        have HEa0 := hid (DgR.sete HE.out (ev + 1) HIN.out HSE.out.1 HSE.out.2.1 HSE.out.2.2.1)
        have HTa := hid (HTr.out.next (Keeps.set (S := fun k => k = x.b) wr (a := ⟨x.b, 2, none⟩) rfl (.int .i64 (ev + 1))) (fun k h => .inr (by rw [show k = x.b from h]; exact HXB.out)) hn2 hn4)
        have HKa := hid (Keeps.set (S := fun k => k = x.b) wr (a := ⟨x.b, 2, none⟩) rfl (.int .i64 (ev + 1)))
        have HSZA : Hid ((wr.setCell ⟨x.b, 2, none⟩ (.int .i64 (ev + 1))).heap.size = wr.heap.size) := by show _ = _; simp
        have hsr := HTr.out.s
        have hs00 : w.heap.size + 2 ≤ wr.heap.size := hsr
        generalize wr.setCell ⟨x.b, 2, none⟩ (.int .i64 (ev + 1)) = Wa at *
        have HEa : Hid (DgR Wa x.b x.n (.slice oa x.d.mem.length ocap) x.vp x.vo x.vn { x.d with ever := ev + 1 }) := by rw [← HVM.out]; exact HEa0.out
        clear a1 a5 a7 z0 z1 z2 z3 z4 fz c1 c2 c3o fx
        have c3 := HEa.out.c3
        have fx := HEa.out.fz
        obtain ⟨i0, hi0, hz0, hz1, hz2⟩ := info3
        have hbxa : x.b < Wa.heap.size := DgR.lt HEa.out
        have HOW : Hid ((Wa.alloc (.cells #[.int .i64 (ev + 1)] 3)).ownsRow 0 3 1 (.slice oa x.d.mem.length ocap) x.d.mem.length (vals x.d.mem)) := HEa.out.mem.alloc _
        have HNE : Hid (∀ j u, ([.int .i64 (ev + 1)] : List Value)[j]? = some u → (Wa.alloc (.cells #[.int .i64 (ev + 1)] 3)).cell? ((⟨Wa.heap.size, 0, none⟩ : Addr).add j) = some u) := fun j u hu => by
          rw [add_at, Nat.zero_add]
          refine cell_blk (heap_alloc_new Wa (.cells #[.int .i64 (ev + 1)] 3)) j u ?_
          rw [← hu]; simp
        have HON1 : Hid (∀ u ∈ ([.int .i64 (ev + 1)] : List Value), u.oneCell' = true) := fun u hu => by simp at hu; rcases hu with rfl; rfl
        have HOUT1 : Hid (∀ x2 w2, w2.ownsRow 0 3 1 x2 (x.d.mem.length + 1) (vals x.d.mem ++ [.int .i64 (ev + 1)]) → (Wa.alloc (.cells #[.int .i64 (ev + 1)] 3)).grownBy w2 (Value.slice oa x.d.mem.length ocap).ownBlock → (∀ j, w2.frozen? ⟨x.b, j, none⟩ = false) ∧ w2.cell? ⟨x.b, 3, none⟩ = some (.slice oa x.d.mem.length ocap) ∧ Keeps (fun k => x.vm.ownBlock = some k) Wa w2 ∧ ∃ ga gc, x2 = .slice ga (x.d.mem.length + 1) gc) := fun x2 w2 h1 h2 => by
          have hk : Keeps (fun k => x.vm.ownBlock = some k) Wa w2 := by
            rw [HVM.out]
            exact (Keeps.of_below (S := fun k => (Value.slice oa x.d.mem.length ocap).ownBlock = some k) ((Below.refl _ _).alloc (Nat.le_refl _) _)).trans (Keeps.of_grown (S := fun k => (Value.slice oa x.d.mem.length ocap).ownBlock = some k) h2 (fun k hk => hk)) (fun x hx => .inl hx)
          have hc := (hk.block x.b hbxa HSE.out.1).trans HEa.out.cells
          obtain ⟨ga, gc, ge, _⟩ := row_shape (row_base h1)
          exact ⟨frz_blk hc, cell_blk hc 3 _ rfl, hk, ga, gc, ge⟩
        go_cut [] from 192 to 202 (fun V => ∃ (ga : Option Addr) (gc : Nat) (w2 : World), Hid (w2.ownsRow 0 3 1 (.slice ga (x.d.mem.length + 1) gc) (x.d.mem.length + 1) (vals x.d.mem ++ [.int .i64 (ev + 1)]) ∧ Keeps (fun k => x.vm.ownBlock = some k) Wa w2 ∧ (∀ k, (Value.slice ga (x.d.mem.length + 1) gc).ownBlock = some k → x.vm.ownBlock = some k ∨ Wa.heap.size ≤ k)) ∧ Hid (V = w2.setCell ⟨x.b, 3, none⟩ (.slice ga (x.d.mem.length + 1) gc)))
        case first =>
          go_wp2_with (at_builtin; go_loud (refine wpList_append_own_at _ rfl _ _ 30 rfl 0 3 i0 _ 1 8 Try.underlying30 hi0 hz0 hz1 hz2 rfl (by decide) _ x.d.mem.length (vals x.d.mem) rfl HOW.out ⟨Wa.heap.size, 0, none⟩ 1 1 [.int .i64 (ev + 1)] rfl rfl HNE.out HON1.out (by first | omega | (unfold maxLen; omega)) (by omega) (Nat.zero_le _) ?_); intro x2 w2 hown2 hg2 _ hat2; obtain ⟨o1, o2, o3, ga, gc, rfl⟩ := HOUT1.out x2 w2 hown2 hg2; have HO2 := hid hown2; have HO3 := hid o3; have HO4 := hid hat2; clear hown2 hg2 o3 hat2)
          go_meet
          case rel => exact ⟨_, _, _, ⟨HO2.out, HO3.out, fun k hk => by
            rw [HVM.out]
            rcases HO4.out with h | h
            · rw [h] at hk; exact .inl hk
            · rw [h] at hk; exact .inr (by cases hk; simp)⟩, rfl⟩
        case rest =>
          obtain ⟨ga, gc, wm, HM2, HVm⟩ := hcut
          have hml : (x.d.mem ++ [ev + 1]).length = x.d.mem.length + 1 := by simp
          have hmv : vals (x.d.mem ++ [ev + 1]) = vals x.d.mem ++ [.int .i64 (ev + 1)] := by simp [vals]
          have hrowm : wm.ownsRow 0 3 1 (.slice ga (x.d.mem.length + 1) gc) (x.d.mem ++ [ev + 1]).length (vals (x.d.mem ++ [ev + 1])) := by rw [hml, hmv]; exact HM2.out.1
          have hszA : Wa.heap.size = wr.heap.size := HSZA.out
          have hwr : w.heap.size + 2 ≤ wr.heap.size := HTr.out.s
          have hgb : (Value.slice ga (x.d.mem.length + 1) gc).ownBlock ≠ some x.b := fun e => by
            rcases HM2.out.2.2 _ e with h | h
            · exact HSE.out.1 h
            · omega
          have hse := HSE.out
          have HEm := hid (DgR.member HEa0.out HM2.out.2.1 hrowm (fun y hy => by
            rcases List.mem_append.1 hy with hy | hy
            · exact HEa.out.m64 y hy
            · obtain rfl := List.mem_singleton.1 hy; exact ⟨by omega, by omega⟩) (by rw [hml]; omega) hgb hse.1 HPA.out hse.2.2.2.1 hse.2.2.2.2 hse.2.1 hse.2.2.1)
          have HTm := hid ((HTa.out.next HM2.out.2.1 (fun k h => (HVN.out k h).elim) (fun h => HVN.out _ h) (fun h => HVN.out _ h)).next (Keeps.set (S := fun k => k = x.b) wm (a := ⟨x.b, 3, none⟩) rfl (.slice ga (x.d.mem.length + 1) gc)) (fun k h => .inr (by rw [show k = x.b from h]; exact HXB.out)) hn2 hn4)
          have hkm : Keeps (fun k => k = x.b ∨ x.vm.ownBlock = some k) wr (wm.setCell ⟨x.b, 3, none⟩ (.slice ga (x.d.mem.length + 1) gc)) := ((HKa.out.mono (T := fun k => k = x.b ∨ x.vm.ownBlock = some k) fun k h => .inl h).trans HM2.out.2.1 (fun k h => .inl (.inr h))).trans (Keeps.set (S := fun k => k = x.b) wm (a := ⟨x.b, 3, none⟩) rfl _) (fun k h => .inl (.inl h))
          have HLW : Hid (IL (wm.setCell ⟨x.b, 3, none⟩ (.slice ga (x.d.mem.length + 1) gc)) (.slice la m.list.length lc) m.list) := by
            have h := HLV.out
            exact h.kept (X := fun k => (k ≠ x.b ∧ x.vm.ownBlock ≠ some k) ∧ k < wr.heap.size) (fun hne b off n c e => ⟨⟨fun e2 => HLB.out hne b off n c e (by rw [e2]; exact HXB2.out), HVN.out b⟩, h.old hne b off n c e⟩) (fun k hk => hkm.block k hk.2 (fun h => h.elim hk.1.1 hk.1.2)) hkm.size
          rw [← HVm.out] at HEm HTm HLW
          have HKM := hid hkm
          rw [← HVm.out] at HKM
          clear hkm
          have HAP : Hid ((Value.slice ga (x.d.mem.length + 1) gc).ownBlock ≠ some x.b ∧ x.vo.ownBlock ≠ some x.b ∧ x.vn.ownBlock ≠ some x.b) := ⟨hgb, hse.2.1, hse.2.2.1⟩
          have HGO : Hid (∀ k, (Value.slice ga (x.d.mem.length + 1) gc).ownBlock = some k → x.vm.ownBlock = some k ∨ w.heap.size + 2 ≤ k) := fun k hk => (HM2.out.2.2 k hk).imp id (fun h => by omega)
          have HGV : Hid (∀ k, (Value.slice ga (x.d.mem.length + 1) gc).ownBlock = some k → wr.heap.size ≤ k) := fun k hk => (HM2.out.2.2 k hk).elim (fun h => (HVN.out k h).elim) (fun h => by omega)
          clear hml hmv hrowm hszA hwr hgb hse HM2 HVm c3 fx HOW HNE HON1 HOUT1 HEa HEa0 HTa HKa HSZA HE HTr hbxa HF hsr hs00 hi0 hz0 hz1 hz2
          have HE := HEm
          have HTr := HTm
          clear HEm HTm
          generalize wc = wr at *
          have a7 := cell_blk HTr.out.x 7 _ rfl
          obtain ⟨i0, hi0, hz0, hz1, hz2⟩ := info3
          have hbx := DgR.lt HE.out
          have HRW0 := hid (row_new wr)
          have HON := hid (vals_one m.list)
          have HB0 : Hid (Below wr.heap.size wr (wr.alloc (.cells #[] 3))) := (Below.refl _ _).alloc (Nat.le_refl _) _
          have HIL0 := hid (HLW.out.under HB0.out)
          have HOUT : Hid (∀ x2 w2, w2.ownsRow wr.heap.size 3 1 x2 (0 + m.list.length) ([] ++ vals m.list) → (wr.alloc (.cells #[] 3)).grownBy w2 (some wr.heap.size) → Below wr.heap.size wr w2 ∧ IL w2 x2 m.list ∧ In (fun b => wr.heap.size ≤ b) x2 m.list ∧ ∃ a c, x2 = .slice a m.list.length c) := fun x2 w2 h1 h2 => by
            obtain ⟨g1, g2⟩ := fresh_list HIL0.out.ok hlf h1
            have g3 := g1
            obtain ⟨⟨ga, gc, ge, _⟩, _⟩ := g3
            exact ⟨HB0.out.grown h2 HB0.out.size (fun j hj => by cases hj; exact Nat.le_refl _), g1, g2, ga, gc, ge⟩
          have fx := DgR.fz HE.out
          have hs0 := HTr.out.s
          have q1 : w.heap.size < wr.heap.size := by omega
          have q2 : ¬ w.heap.size = wr.heap.size := by omega
          have q3 : ¬ wr.heap.size = w.heap.size := by omega
          have a7n := cell_blk (HTr.out.under HB0.out).x 7 _ rfl
          go_upto_region 30 with fail
          go_cut [] from 202 to 209 (fun V => ∃ (pa : Option Addr) (pc : Nat) (w2 : World), Hid (Below wr.heap.size wr w2 ∧ IL w2 (.slice pa m.list.length pc) m.list ∧ In (fun b => wr.heap.size ≤ b) (.slice pa m.list.length pc) m.list) ∧ Hid (V = w2.setCell ⟨x.b, 4, none⟩ (.slice pa m.list.length pc)))
          case first =>
            cases la with
            | none =>
              have hl0 : m.list.length = 0 ∧ lc = 0 ∧ m.list = [] := by have := HIL0.out.none_nil; exact ⟨this.1, this.2.1, this.2.2⟩
              obtain ⟨g1, hlc0, hlnil⟩ := hl0
              rw [g1, hlc0] at a7 a7n
              have HG := hid g1
              have HLN := hid hlnil
              clear g1 hlnil hlc0
              have c4 := (DgR.under HE.out HB0.out).c4
              go_wp2_with (at_builtin; refine wpList_append_own_none rfl _ _ 30 rfl wr.heap.size 3 i0 1 Try.underlying30 hi0 _ 0 [] rfl HRW0.out rfl ?_)
              go_meet
              case rel => exact ⟨_, _, _, ⟨HB0.out, by rw [HG.out, HLN.out]; exact IL.of HRW0.out (fun y hy => by cases hy) (by simp), by rw [HLN.out]; exact In.nil _ _⟩, by show _ = _; rw [HG.out]; exact (World.setCell_alloc_past (w := wr) (.cells #[] 3) x.b 4 _ hbx).symm⟩
            | some ad =>
              have HNW : Hid (∀ j u, (vals m.list)[j]? = some u → (wr.alloc (.cells #[] 3)).cell? (ad.add j) = some u) := HIL0.out.vcells.2
              have HLn : Hid ((vals m.list).length = m.list.length * 1) := by show _ = _; rw [vals_length]; omega
              go_wp2_with (at_builtin; refine wpList_append_own_at _ rfl _ _ 30 rfl wr.heap.size 3 i0 _ 1 8 Try.underlying30 hi0 hz0 hz1 hz2 rfl (by decide) _ 0 [] rfl HRW0.out ad m.list.length lc (vals m.list) rfl HLn.out HNW.out HON.out (by unfold maxLen; omega) (by omega) (by simp) ?_; intro x2 w2 hown2 hg2 _ _; obtain ⟨o1, o2, o3, xa, xc, rfl⟩ := HOUT.out x2 w2 hown2 hg2; have fx2 : ∀ j, w2.frozen? ⟨x.b, j, none⟩ = false := fun j => DgR.fz (DgR.under HE.out o1) j; have c42 := (DgR.under HE.out o1).c4; have HO1 := hid o1; have HO2 := hid o2; have HO3 := hid o3; clear o1 o2 o3 hown2 hg2)
              go_meet
              case rel => exact ⟨_, _, _, ⟨HO1.out, HO2.out, HO3.out⟩, rfl⟩
          case rest =>
            obtain ⟨pa, pc, w2, HW2, HV2⟩ := hcut
            have HAPx := HAP.out
            have hD2 : DgR w2 x.b x.n (.slice ga (x.d.mem.length + 1) gc) x.vp x.vo x.vn ({ ({ x.d with ever := ev + 1 } : Dg) with mem := x.d.mem ++ [ev + 1] }) := HE.out.under HW2.out.1
            have hin2 : In (fun k => k ≠ x.b) (.slice pa m.list.length pc) m.list := HW2.out.2.2.mono fun k hk => by have : wr.heap.size ≤ k := hk; have := DgR.lt HE.out; omega
            have HIN2 := hid hin2
            have HD3 := hid (DgR.setp hD2 HW2.out.2.1 hin2 HAP.out.1 HAPx.2.1 HAPx.2.2)
            have HT3 := hid (((HTr.out.under HW2.out.1).mono (Z' := fun k => k = r) (fun _ h => h)).next (Keeps.set (S := fun k => k = x.b) w2 (a := ⟨x.b, 4, none⟩) rfl (.slice pa m.list.length pc)) (fun k h => .inr (by rw [show k = x.b from h]; exact HXB.out)) hn2 hn4)
            rw [← HV2.out] at HD3 HT3
            have HKX : Hid (Below wr.heap.size wr w2 ∧ IL w2 (.slice pa m.list.length pc) m.list ∧ In (fun k => wr.heap.size ≤ k) (.slice pa m.list.length pc) m.list) := HW2
            have hwl : wr.heap.size ≤ wc.heap.size := by rw [HV2.out]; have := HW2.out.1.size; simpa using this
            have c1 : wc.cell? ⟨x.b, 1, none⟩ = some (.int .i64 x.d.gen) := HD3.out.c1
            have fx : ∀ j, wc.frozen? ⟨x.b, j, none⟩ = false := fun j => HD3.out.fz j
            obtain ⟨g, hgE⟩ : ∃ g, g = x.d.gen := ⟨_, rfl⟩
            have HGE := hid hgE
            rw [← hgE] at c1 hg
            clear hD2 hin2 hgE HAPx
            go_upto_region 32 with fail
            have HD4 := hid (DgR.setg HD3.out (g + 1) HIN2.out HAP.out.1 HAP.out.2.1 HAP.out.2.2)
            have HT4 := hid (HT3.out.next (Keeps.set (S := fun k => k = x.b) wc (a := ⟨x.b, 1, none⟩) rfl (.int .i64 (g + 1))) (fun k h => .inr (by rw [show k = x.b from h]; exact HXB.out)) hn2 hn4)
            have HK4 := hid (Keeps.set (S := fun k => k = x.b) wc (a := ⟨x.b, 1, none⟩) rfl (.int .i64 (g + 1)))
            have HS4 : Hid ((wc.setCell ⟨x.b, 1, none⟩ (.int .i64 (g + 1))).heap.size = wc.heap.size) := by show _ = _; simp
            generalize wc.setCell ⟨x.b, 1, none⟩ (.int .i64 (g + 1)) = W4 at *
            clear c1 fx HD3 HT3
            have HDJ : Hid (DgR W4 x.b x.n (.slice ga (x.d.mem.length + 1) gc) (.slice pa m.list.length pc) x.vo x.vn (joinDD x.d m)) := by
              have h := HD4.out
              rw [HGE.out] at h
              rw [joinDD_zero HA0.out, ← HEVE.out]
              exact h
            clear HD4
            have c1 : W4.cell? ⟨x.b, 1, none⟩ = some (.int .i64 (g + 1)) := by rw [HGE.out]; have h9 := HDJ.out.c1; rw [joinDD_gen] at h9; exact h9
            obtain ⟨P, hP⟩ : ∃ P, P = partsD (x.d.mem ++ [x.d.ever + 1]) m.list (ev + 1) := ⟨_, rfl⟩
            have HPE := hid hP
            have HP : Hid (∀ V, Below W4.heap.size W4 V → Calls Try.prog 29 #[.pointer (some ⟨x.b, 0, none⟩), .int .i64 (ev + 1)] V fun e w' => ∃ a c, e = .returned (.slice a P.length c) ∧ IL w' (.slice a P.length c) P ∧ In (fun k => V.heap.size ≤ k) (.slice a P.length c) P ∧ Below V.heap.size V w') := by rw [hP]; intro V hV; have h9 := rparts_any (HDJ.out.under hV) (ev + 1); rw [joinDD_parts, joinDD_mem0 HA0.out] at h9; exact h9
            clear hP
            have HC1 : Hid (∀ V, Below W4.heap.size W4 V → V.cell? ⟨x.b, 1, none⟩ = some (.int .i64 (g + 1))) := by
              intro V hV
              have h9 := (HDJ.out.under hV).c1
              rw [joinDD_gen, ← HGE.out] at h9
              exact h9
            have hB0 : Below W4.heap.size W4 W4 := Below.refl _ _
            go_region_held3 (fun V => V.cell? ⟨x.b, 1, none⟩ = some (.int .i64 (g + 1))) (go_keep)
              (first | (go_at_call 29; refine (HP.out _ (by repeat (first | exact hB0 | apply Below.drew))).mono ?_; rintro e w5 ⟨qa, qc, rfl, hil5, hin5, hb5⟩; have hB5 := (show Below W4.heap.size W4 _ by repeat (first | exact hB0 | apply Below.drew)).trans hb5; have HIL5 := hid hil5; have HIN5 := hid hin5; have HB5 := hid hB5; have HT6 := hid (HT4.out.under hB5); have c1 := HC1.out _ hB5; have z0 := cell_blk HT6.out.z 0 _ rfl; have z1 := cell_blk HT6.out.z 1 _ rfl; have z2 := cell_blk HT6.out.z 2 _ rfl; have z3 := cell_blk HT6.out.z 3 _ rfl; have z4 := cell_blk HT6.out.z 4 _ rfl; have fz := frz_blk HT6.out.z) | fail)
            go_wp2_with fail
            have HT5 := hid ((HT6.out).five rfl (.int .i64 0) (.int .i64 (ev + 1)) (.int .i64 (g + 1)) (.int .i64 0) (.slice qa P.length qc))
            have HK5 := hid (five_keeps w5 (w.heap.size + 1) (.int .i64 0) (.int .i64 (ev + 1)) (.int .i64 (g + 1)) (.int .i64 0) (.slice qa P.length qc))
            unfold five at HT5 HK5
            generalize ((((w5.setCell ⟨w.heap.size + 1, 0, none⟩ (.int .i64 0)).setCell ⟨w.heap.size + 1, 1, none⟩ (.int .i64 (ev + 1))).setCell ⟨w.heap.size + 1, 2, none⟩ (.int .i64 (g + 1))).setCell ⟨w.heap.size + 1, 3, none⟩ (.int .i64 0)).setCell ⟨w.heap.size + 1, 4, none⟩ (.slice qa P.length qc) = N5 at *
            have hs0 := HTr.out.s
            have hs4 : W4.heap.size = wc.heap.size := HS4.out
            have hs5 := HB5.out.size
            have hi5 : IL N5 (.slice qa P.length qc) P := HIL5.out.kept (X := fun k => W4.heap.size ≤ k ∧ k < w5.heap.size) (fun hn b off n c e => ⟨(HIN5.out hn b off n c e : W4.heap.size ≤ b), HIL5.out.old hn b off n c e⟩) (fun k hk => HK5.out.block k hk.2 (by omega)) HK5.out.size
            have hin : In (fun k => w.heap.size ≤ k) (.slice qa P.length qc) P := fun hn b off n c e => by have : W4.heap.size ≤ b := HIN5.out hn b off n c e; omega
            have hPO : ∀ V, Below N5.heap.size N5 V → ∃ (b : Nat) (vl' vm' vp' : Value), Keeps (fun k => k = r) w V ∧ V.heap[r]? = some (.cells #[vl', .int .i64 ep] 29) ∧ V.ownsRow 0 57 1 vl' (insX es (placeE es m.name) ⟨b, m.name, vm', vp', .slice none 0 0, .slice none 0 0, joinDD Dg.zero m⟩).length (ptrs (insX es (placeE es m.name) ⟨b, m.name, vm', vp', .slice none 0 0, .slice none 0 0, joinDD Dg.zero m⟩)) ∧ DgR V b m.name vm' vp' (.slice none 0 0) (.slice none 0 0) (joinDD Dg.zero m) ∧ w.heap.size ≤ b ∧ (∀ k, vm'.ownBlock = some k → w.heap.size ≤ k ∧ k ≠ b) ∧ (∀ k, vl'.ownBlock = some k → w.heap.size ≤ k ∧ k ≠ b ∧ vm'.ownBlock ≠ some k) ∧ In (fun k => w.heap.size ≤ k ∧ k ≠ b ∧ vm'.ownBlock ≠ some k ∧ vl'.ownBlock ≠ some k) vp' m.list ∧ ToldP (fun b => w.heap.size ≤ b) V ⟨0, 1, 1, 0, partsD [1] m.list 1⟩ (.returned (.agg #[.int .i64 0, .int .i64 (ev + 1), .int .i64 (g + 1), .int .i64 0, .slice qa P.length qc])) := fun V hV => by
              have hrw := HTr.out.s
              have hb0 := HNP.out.b
              have hxb := HXB.out
              have hrl := HRL.out
              have hk2 : Keeps (fun k => k = x.b) w2 wc := by rw [HV2.out]; exact Keeps.set (S := fun k => k = x.b) w2 (a := ⟨x.b, 4, none⟩) rfl _
              have hkA : Keeps (fun k => k = x.b ∨ k = w.heap.size + 1) wr N5 := ((((Keeps.of_below HW2.out.1).trans hk2 (fun k h => .inl (.inl h))).trans HK4.out (fun k h => .inl (.inl h))).trans (Keeps.of_below (S := fun k => k = x.b ∨ k = w.heap.size + 1) HB5.out) (fun k h => .inl h)).trans HK5.out (fun k h => .inl (.inr h))
              have hkB := (HKM.out.mono (T := fun k => k = x.b ∨ k = w.heap.size + 1) (fun k h => h.elim .inl (fun h => (HVN.out k h).elim))).trans hkA (fun k h => .inl h)
              have hkV := hkB.trans (Keeps.of_below (S := fun k => k = x.b ∨ k = w.heap.size + 1) hV) (fun k h => .inl h)
              have hs0r : w.heap.size + 2 ≤ wr.heap.size := hrw
              have hV0 := HNP.out.k.size
              have hVw := HKM.out.size
              have hrx : ¬ (r = x.b ∨ r = w.heap.size + 1) := by omega
              have hrV : r < _ := (Array.getElem?_eq_some_iff.1 HNP.out.rc).1
              have hW0 := HSW.out
              have h1 : DgR N5 x.b x.n (.slice ga (x.d.mem.length + 1) gc) (.slice pa m.list.length pc) x.vo x.vn (joinDD x.d m) := (HDJ.out.under HB5.out).off HK5.out hn3 (fun e => by rcases HGO.out _ e with h | h; exact HVN.out _ h; omega) (by rw [HXE.out.2.2.2.1]; simp [Value.ownBlock]) (by rw [HXE.out.2.2.2.2.1]; simp [Value.ownBlock]) (by rw [joinDD_parts]; exact HW2.out.2.2.mono fun k hk => by have : wr.heap.size ≤ k := hk; omega)
              have h2 := h1.under hV
              rw [HXE.out.1, HXE.out.2.2.2.1, HXE.out.2.2.2.2.1, show joinDD x.d m = joinDD Dg.zero m by rw [HXE.out.2.2.2.2.2]] at h2
              have hev0 : ev = 0 := HEVE.out.trans HXZ.out.1
              have hg0 : g = 0 := HGE.out.trans HXZ.out.2.1
              have hP : P = partsD [1] m.list 1 := by rw [HPE.out, HXZ.out.2.2, HXZ.out.1, hev0]; rfl
              have hxl := DgR.lt HE.out
              refine ⟨x.b, vl', _, _, HT5.out.k.trans (Keeps.of_below (S := fun k => k = r) hV) (fun k e => .inl e), (hkV.block r hrV hrx).trans HNP.out.rc, ?_, h2, by omega, fun k hk => ⟨?_, fun e => HAP.out.1 (by rw [← e]; exact hk)⟩, fun k hk => ⟨?_, (HNP.out.vl k hk).2, fun e => ?_⟩, HW2.out.2.2.mono fun k hk => ?_, ?_⟩
              · rw [(insX_same (x := ⟨x.b, m.name, .slice ga (x.d.mem.length + 1) gc, .slice pa m.list.length pc, .slice none 0 0, .slice none 0 0, joinDD Dg.zero m⟩) (y := x) rfl).1, (insX_same (x := ⟨x.b, m.name, .slice ga (x.d.mem.length + 1) gc, .slice pa m.list.length pc, .slice none 0 0, .slice none 0 0, joinDD Dg.zero m⟩) (y := x) rfl).2]
                exact row_kept HNP.out.row (fun k hk => hkV.block k (row_lt HNP.out.row hk) (fun e => by
                  have h3 := HNP.out.vl k hk
                  rcases e with e | e
                  · exact h3.2 e
                  · omega))
              · rcases HGO.out k hk with h | h
                · exact (HVN.out k h).elim
                · omega
              · have := (HNP.out.vl k hk).1; omega
              · have h3 := row_lt HNP.out.row hk
                have h4 := HGV.out k e
                omega
              · have h5 : wr.heap.size ≤ k := hk
                exact ⟨by omega, by omega, fun e => by have := row_lt HE.out.mem e; omega, fun e => by have := row_lt HNP.out.row e; omega⟩
              · rw [hev0, hg0, ← hP]
                exact ⟨qa, qc, rfl, hi5.under hV, hin⟩
            have HPOST := hid hPO
            clear hPO hi5 hin
            have r0 := cell_blk HT5.out.z 0 _ rfl
            have r1 := cell_blk HT5.out.z 1 _ rfl
            have r2 := cell_blk HT5.out.z 2 _ rfl
            have r3 := cell_blk HT5.out.z 3 _ rfl
            have r4 := cell_blk HT5.out.z 4 _ rfl
            exact bodyPost_ret (v := .agg #[.int .i64 0, .int .i64 (ev + 1), .int .i64 (g + 1), .int .i64 0, .slice qa P.length qc]) (by simp [results, Try.results25, go_sem, r0, r1, r2, r3, r4]) rfl (HPOST _ (Below.refl _ _))
end Go.Proofs.Ytdnpbhijjmlecaa

