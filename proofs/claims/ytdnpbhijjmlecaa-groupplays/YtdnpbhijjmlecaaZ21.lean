/- The document's Join: too many. -/
import Derived.Test.YtdnpbhijjmlecaaZ18
import Derived.Test.YtdnpbhijjmlecaaZ11
import Derived.BigQuiet
namespace Go.Proofs.Ytdnpbhijjmlecaa
open Go.RowKit Go.Maps
set_option maxRecDepth 100000
set_option linter.unusedSimpArgs false
set_option linter.unusedVariables false

set_option maxHeartbeats 3200000 in
theorem rj_many0 {w : World} {r : Nat} {vl : Value} {es : List Ent} {ep : Int} (h : DC w r vl es ep) (hf : es.length ≤ 1000) (m : Rc) (la : Option Addr) (lc : Nat) (hl : IL w (.slice la m.list.length lc) m.list) (hnm : m.name.size ≤ maxLen) (hn : nameB m.name = true) (hr : riseB 0 m.list = true) (ha : m.a = 0) (hx : findX es m.name = none) (h8 : 8 ≤ es.length) : Calls Try.prog 25 #[.pointer (some ⟨r, 0, none⟩), recV m (.slice la m.list.length lc)] w fun e w' => ToldP (fun b => w.heap.size ≤ b) w' (errT 3) e ∧ Below w.heap.size w w' := by
  have HNM := hid hn
  have HRS := hid hr
  clear hn hr
  have HFX := hid hx
  have HA0 := hid ha
  have H8 := hid h8
  clear hx ha h8
  have HC := hid h
  have hT := tb8_new (fun _ => False) w (recA m (.slice la m.list.length lc)) zTd
  have HT := hid hT
  unfold recV recA zTd at *
  go_enter Try.func25, Try.ntmps25
  go_upto_region 1 with fail
  generalize (w.alloc (.cells #[.int .i64 m.kind, .int .i64 m.a, .int .i64 m.b, .int .i64 m.c, .int .i64 m.d, .string m.name, .string m.text, .slice la m.list.length lc] 32)).alloc (.cells #[.int .i64 0, .int .i64 0, .int .i64 0, .int .i64 0, .slice none 0 0] 38) = W at *
  have a5 := cell_blk HT.out.x 5 _ rfl
  have a7 := cell_blk HT.out.x 7 _ rfl
  have HRI := hid (rright_any m.name W hnm)
  have HLI := hid (hl.under HT.out.k.base)
  have hlf : m.list.length ≤ 17592186044415 := hl.few
  obtain ⟨NB, hNB⟩ : ∃ B, B = nameB m.name := ⟨_, rfl⟩
  have HNB := hid hNB
  rw [← hNB] at HRI
  clear hNB hT h hl hnm
  go_wp2_with fail
  refine HRI.out.mono ?_
  rintro e w1 ⟨rfl, rfl⟩
  go_wp2_with fail
  go_loopg [5, 6] m.list.length (fun kx s5 s6 wr => ∃ (k : Nat) (B : Bool), k ≤ m.list.length ∧ m.list.length - k ≤ kx ∧ s6 = .int .i64 (k : Int) ∧ s5 = .bool B ∧ Hid (B = (NB && riseB 0 (m.list.take k))) ∧ Hid (Below W.heap.size W wr))
  case atStart => exact ⟨0, NB, Nat.zero_le _, by omega, rfl, rfl, by show _ = _; simp [riseB], Below.refl _ _⟩
  case round =>
    obtain ⟨k, B, hk, hkx, rfl, rfl, HRB, HR⟩ := hrel
    have HR : Hid (True ∧ Below W.heap.size W wr) := ⟨trivial, HR.out⟩
    clear a5 a7
    have a7 := cell_blk (HT.out.under HR.out.2).x 7 _ rfl
    by_cases hlt : k < m.list.length
    · have hlt' : (k : Int) < (m.list.length : Int) := by omega
      have HS := hid (riseB_take m.list k hlt)
      obtain ⟨lb, lo, rfl, hlc⟩ := (HLI.out.under HR.out.2).cellAt k hlt
      have HLC := hid fun j hj => IL.cellAt' (HLI.out.under HR.out.2) j (List.getElem?_eq_getElem hj)
      have HLT := hid hlt
      have HPZ : Hid (∀ z, (∃ h : k - 1 < m.list.length, m.list[k - 1] = z) → riseB 0 (m.list.take (k + 1)) = (riseB 0 (m.list.take k) && decide (1 ≤ m.list[k] ∧ m.list[k] ≤ 16 ∧ (k = 0 ∨ z < m.list[k])))) := fun z hz => by
        obtain ⟨h, rfl⟩ := hz
        exact HS.out
      clear HS
      generalize m.list[k] = y at *
      have hy1 : ∀ b : Bool, ¬ 1 ≤ y → riseB 0 (m.list.take (k + 1)) = false := fun _ h => by
        rw [HPZ.out m.list[k - 1] ⟨by omega, rfl⟩, decide_eq_false (fun e => h e.1), Bool.and_false]
      have HY1 := hid hy1
      have hy2 : ∀ b : Bool, ¬ y ≤ 16 → riseB 0 (m.list.take (k + 1)) = false := fun _ h => by
        rw [HPZ.out m.list[k - 1] ⟨by omega, rfl⟩, decide_eq_false (fun e => h e.2.1), Bool.and_false]
      have HY2 := hid hy2
      clear hy1 hy2
      cases B with
      | false =>
        go_wp2_with fail
        go_quiet (fail)
        go_wp2_with fail
        go_roundg (m.list.length - (k + 1))
        case measure => omega
        case rel => exact ⟨k + 1, false, by omega, Nat.le_refl _, by go_num, by first | rfl | exact congrArg Value.bool (decide_eq_false (by omega)), by show _ = _; have h := HRB.out; rw [HPZ.out m.list[k - 1] ⟨by omega, rfl⟩, ← Bool.and_assoc, ← h]; rfl, by first | exact HR.out.2 | exact HR.out.2.drew | exact below_drewN HR.out.2 _⟩
      | true =>
        have hnb : NB = true ∧ riseB 0 (m.list.take k) = true := by have h := HRB.out; simpa using h.symm
        have HNT := hid hnb.1
        have HRT := hid hnb.2
        clear hnb
        by_cases y1 : 1 ≤ y
        · have y1' : ¬ y < 1 := by omega
          by_cases y2 : y ≤ 16
          · have y2' : ¬ 16 < y := by omega
            by_cases k0 : k = 0
            · subst k0
              have hl0 : (0 : Int) < (m.list.length : Int) := by omega
              rw [Nat.add_zero] at hlc
              clear hlt hlt'
              go_wp2_with fail
              go_quiet (fail)
              go_wp2_with fail
              go_roundg (m.list.length - (0 + 1))
              case measure => omega
              case rel => exact ⟨0 + 1, true, by omega, Nat.le_refl _, by go_num, by first | rfl | exact congrArg Value.bool (decide_eq_false (by omega)), by show _ = _; rw [HPZ.out m.list[0] ⟨HLT.out, rfl⟩, HRT.out, HNT.out, decide_eq_true (by first | exact ⟨y1, y2, .inl rfl⟩ | simp [y1, y2])]; rfl, by first | exact HR.out.2 | exact HR.out.2.drew | exact below_drewN HR.out.2 _⟩
            · obtain ⟨j, rfl⟩ : ∃ j, k = j + 1 := ⟨k - 1, by omega⟩
              have hj : j < m.list.length := by omega
              have hlz := HLC.out j hj
              have HP2 := hid (HPZ.out m.list[j] ⟨by omega, rfl⟩)
              generalize m.list[j] = z at *
              have hkz : ¬ ((j : Int) + 1 = 0) := by omega
              have hkw : IntKind.i64.wrap (j : Int) = (j : Int) := IntWalk.i64_in _ ⟨by omega, by omega⟩
              have hj0 : (0 : Int) ≤ (j : Int) := by omega
              have hj1 : (j : Int) < (m.list.length : Int) := by omega
              have hj2 : ((j : Int) + 1) - 1 = (j : Int) := by omega
              have hj3 : ((j : Int) + 1 == 0) = false := by simp; omega
              have hj4 : (0 : Int) ≤ (j : Int) + 1 := by omega
              have hj5 : (j : Int) + 1 < (m.list.length : Int) := by omega
              by_cases zy : z < y
              · have zy2 : ¬ y ≤ z := by omega
                go_wp2_with fail
                go_quiet (fail)
                go_wp2_with fail
                go_roundg (m.list.length - (j + 1 + 1))
                case measure => omega
                case rel => exact ⟨j + 1 + 1, true, by omega, Nat.le_refl _, by go_num, by first | rfl | exact congrArg Value.bool (decide_eq_false (by omega)), by show _ = _; rw [HP2.out, HRT.out, HNT.out, decide_eq_true (by first | exact ⟨y1, y2, .inr zy⟩ | simp [y1, y2, zy])]; rfl, by first | exact HR.out.2 | exact HR.out.2.drew | exact below_drewN HR.out.2 _⟩
              · have zy2 : y ≤ z := by omega
                go_wp2_with fail
                go_quiet (fail)
                go_wp2_with fail
                go_roundg (m.list.length - (j + 1 + 1))
                case measure => omega
                case rel => exact ⟨j + 1 + 1, false, by omega, Nat.le_refl _, by go_num, by first | rfl | exact congrArg Value.bool (decide_eq_false (by omega)), by show _ = _; rw [HP2.out, HRT.out, HNT.out, decide_eq_false (by omega)]; rfl, by first | exact HR.out.2 | exact HR.out.2.drew | exact below_drewN HR.out.2 _⟩
          · have y2' : 16 < y := by omega
            have y2d : decide (y ≤ 16) = false := by simpa using y2
            go_wp2_with fail
            go_quiet (fail)
            go_wp2_with fail
            go_roundg (m.list.length - (k + 1))
            case measure => omega
            case rel => exact ⟨k + 1, false, by omega, Nat.le_refl _, by go_num, by first | rfl | exact congrArg Value.bool (decide_eq_false (by omega)), by show _ = _; rw [HY2.out true y2, Bool.and_false], by first | exact HR.out.2 | exact HR.out.2.drew | exact below_drewN HR.out.2 _⟩
        · have y1' : y < 1 := by omega
          have y1d : decide (1 ≤ y) = false := by simpa using y1
          go_wp2_with fail
          go_quiet (fail)
          go_wp2_with fail
          go_roundg (m.list.length - (k + 1))
          case measure => omega
          case rel => exact ⟨k + 1, false, by omega, Nat.le_refl _, by go_num, by first | rfl | exact congrArg Value.bool (decide_eq_false (by omega)), by show _ = _; rw [HY1.out true y1, Bool.and_false], by first | exact HR.out.2 | exact HR.out.2.drew | exact below_drewN HR.out.2 _⟩
    · have hlt' : ¬ (k : Int) < (m.list.length : Int) := by omega
      have HGB : Hid (B = (NB && riseB 0 m.list)) := by have h := HRB.out; rw [List.take_of_length_le (by omega)] at h; exact h
      have HB : Hid (Below W.heap.size W wr) := HR.out.2
      clear HRB HR hk hkx hlt
      clear a7
      have HTr := hid (HT.out.under HB.out)
      have a1 := cell_blk HTr.out.x 1 _ rfl
      have a5 := cell_blk HTr.out.x 5 _ rfl
      have a7 := cell_blk HTr.out.x 7 _ rfl
      have z0 := cell_blk HTr.out.z 0 _ rfl
      have z1 := cell_blk HTr.out.z 1 _ rfl
      have z2 := cell_blk HTr.out.z 2 _ rfl
      have z3 := cell_blk HTr.out.z 3 _ rfl
      have z4 := cell_blk HTr.out.z 4 _ rfl
      have fz := frz_blk HTr.out.z
      have hB : B = true := by have h := HGB.out; rw [h, ← HNB.out.symm, HNM.out, HRS.out]; rfl
      subst hB
      clear HGB
      have HF := hid (rfind_any (HC.out.under HTr.out.k.base) hf m.name)
      rw [HFX.out] at HF
      unfold findV at HF
      rw [HA0.out] at a1
      have d0 := (HC.out.under HTr.out.k.base).c0
      obtain ⟨va, vc, hvl, _⟩ := row_shape HC.out.row
      rw [hvl] at d0
      clear hvl
      have h8 : (8 : Int) ≤ (es.length : Int) := by have := H8.out; omega
      have h8' : ¬ (es.length : Int) < 8 := by omega
      go_wp2_with fail
      refine HF.out.mono ?_
      rintro e w1 ⟨rfl, rfl⟩
      go_wp2_with fail
      have HT5 := hid ((HTr.out).five rfl (.int .i64 3) (.int .i64 0) (.int .i64 0) (.int .i64 0) (.slice none 0 0))
      unfold five at HT5
      generalize ((((wr.setCell ⟨w.heap.size + 1, 0, none⟩ (.int .i64 3)).setCell ⟨w.heap.size + 1, 1, none⟩ (.int .i64 0)).setCell ⟨w.heap.size + 1, 2, none⟩ (.int .i64 0)).setCell ⟨w.heap.size + 1, 3, none⟩ (.int .i64 0)).setCell ⟨w.heap.size + 1, 4, none⟩ (.slice none 0 0) = N5 at *
      have r0 := cell_blk HT5.out.z 0 _ rfl
      have r1 := cell_blk HT5.out.z 1 _ rfl
      have r2 := cell_blk HT5.out.z 2 _ rfl
      have r3 := cell_blk HT5.out.z 3 _ rfl
      have r4 := cell_blk HT5.out.z 4 _ rfl
      exact bodyPost_ret (v := .agg #[.int .i64 3, .int .i64 0, .int .i64 0, .int .i64 0, .slice none 0 0]) (by simp [results, Try.results25, go_sem, r0, r1, r2, r3, r4]) rfl (⟨told_nil, by first | exact HT5.out.k.base | exact HT5.out.k.base.drew | exact below_drewN HT5.out.k.base _⟩)
set_option maxHeartbeats 3200000 in
theorem rj_many1 {w : World} {r : Nat} {vl : Value} {es : List Ent} {ep : Int} (h : DC w r vl es ep) (hf : es.length ≤ 1000) (m : Rc) (la : Option Addr) (lc : Nat) (hl : IL w (.slice la m.list.length lc) m.list) (hnm : m.name.size ≤ maxLen) (hn : nameB m.name = true) (hr : riseB 0 m.list = true) (ha : m.a = 0) (x : Ent) (hx : findX es m.name = some x) (h16 : 16 ≤ x.d.mem.length ∨ 1000000 ≤ x.d.ever) : Calls Try.prog 25 #[.pointer (some ⟨r, 0, none⟩), recV m (.slice la m.list.length lc)] w fun e w' => ToldP (fun b => w.heap.size ≤ b) w' (errT 3) e ∧ Below w.heap.size w w' := by
  have HNM := hid hn
  have HRS := hid hr
  clear hn hr
  have HFX := hid hx
  have HMEM := hid (findX_mem hx)
  have HA0 := hid ha
  have H16 := hid h16
  clear hx ha h16
  have HC := hid h
  have hT := tb8_new (fun _ => False) w (recA m (.slice la m.list.length lc)) zTd
  have HT := hid hT
  unfold recV recA zTd at *
  go_enter Try.func25, Try.ntmps25
  go_upto_region 1 with fail
  generalize (w.alloc (.cells #[.int .i64 m.kind, .int .i64 m.a, .int .i64 m.b, .int .i64 m.c, .int .i64 m.d, .string m.name, .string m.text, .slice la m.list.length lc] 32)).alloc (.cells #[.int .i64 0, .int .i64 0, .int .i64 0, .int .i64 0, .slice none 0 0] 38) = W at *
  have a5 := cell_blk HT.out.x 5 _ rfl
  have a7 := cell_blk HT.out.x 7 _ rfl
  have HRI := hid (rright_any m.name W hnm)
  have HLI := hid (hl.under HT.out.k.base)
  have hlf : m.list.length ≤ 17592186044415 := hl.few
  obtain ⟨NB, hNB⟩ : ∃ B, B = nameB m.name := ⟨_, rfl⟩
  have HNB := hid hNB
  rw [← hNB] at HRI
  clear hNB hT h hl hnm
  go_wp2_with fail
  refine HRI.out.mono ?_
  rintro e w1 ⟨rfl, rfl⟩
  go_wp2_with fail
  go_loopg [5, 6] m.list.length (fun kx s5 s6 wr => ∃ (k : Nat) (B : Bool), k ≤ m.list.length ∧ m.list.length - k ≤ kx ∧ s6 = .int .i64 (k : Int) ∧ s5 = .bool B ∧ Hid (B = (NB && riseB 0 (m.list.take k))) ∧ Hid (Below W.heap.size W wr))
  case atStart => exact ⟨0, NB, Nat.zero_le _, by omega, rfl, rfl, by show _ = _; simp [riseB], Below.refl _ _⟩
  case round =>
    obtain ⟨k, B, hk, hkx, rfl, rfl, HRB, HR⟩ := hrel
    have HR : Hid (True ∧ Below W.heap.size W wr) := ⟨trivial, HR.out⟩
    clear a5 a7
    have a7 := cell_blk (HT.out.under HR.out.2).x 7 _ rfl
    by_cases hlt : k < m.list.length
    · have hlt' : (k : Int) < (m.list.length : Int) := by omega
      have HS := hid (riseB_take m.list k hlt)
      obtain ⟨lb, lo, rfl, hlc⟩ := (HLI.out.under HR.out.2).cellAt k hlt
      have HLC := hid fun j hj => IL.cellAt' (HLI.out.under HR.out.2) j (List.getElem?_eq_getElem hj)
      have HLT := hid hlt
      have HPZ : Hid (∀ z, (∃ h : k - 1 < m.list.length, m.list[k - 1] = z) → riseB 0 (m.list.take (k + 1)) = (riseB 0 (m.list.take k) && decide (1 ≤ m.list[k] ∧ m.list[k] ≤ 16 ∧ (k = 0 ∨ z < m.list[k])))) := fun z hz => by
        obtain ⟨h, rfl⟩ := hz
        exact HS.out
      clear HS
      generalize m.list[k] = y at *
      have hy1 : ∀ b : Bool, ¬ 1 ≤ y → riseB 0 (m.list.take (k + 1)) = false := fun _ h => by
        rw [HPZ.out m.list[k - 1] ⟨by omega, rfl⟩, decide_eq_false (fun e => h e.1), Bool.and_false]
      have HY1 := hid hy1
      have hy2 : ∀ b : Bool, ¬ y ≤ 16 → riseB 0 (m.list.take (k + 1)) = false := fun _ h => by
        rw [HPZ.out m.list[k - 1] ⟨by omega, rfl⟩, decide_eq_false (fun e => h e.2.1), Bool.and_false]
      have HY2 := hid hy2
      clear hy1 hy2
      cases B with
      | false =>
        go_wp2_with fail
        go_quiet (fail)
        go_wp2_with fail
        go_roundg (m.list.length - (k + 1))
        case measure => omega
        case rel => exact ⟨k + 1, false, by omega, Nat.le_refl _, by go_num, by first | rfl | exact congrArg Value.bool (decide_eq_false (by omega)), by show _ = _; have h := HRB.out; rw [HPZ.out m.list[k - 1] ⟨by omega, rfl⟩, ← Bool.and_assoc, ← h]; rfl, by first | exact HR.out.2 | exact HR.out.2.drew | exact below_drewN HR.out.2 _⟩
      | true =>
        have hnb : NB = true ∧ riseB 0 (m.list.take k) = true := by have h := HRB.out; simpa using h.symm
        have HNT := hid hnb.1
        have HRT := hid hnb.2
        clear hnb
        by_cases y1 : 1 ≤ y
        · have y1' : ¬ y < 1 := by omega
          by_cases y2 : y ≤ 16
          · have y2' : ¬ 16 < y := by omega
            by_cases k0 : k = 0
            · subst k0
              have hl0 : (0 : Int) < (m.list.length : Int) := by omega
              rw [Nat.add_zero] at hlc
              clear hlt hlt'
              go_wp2_with fail
              go_quiet (fail)
              go_wp2_with fail
              go_roundg (m.list.length - (0 + 1))
              case measure => omega
              case rel => exact ⟨0 + 1, true, by omega, Nat.le_refl _, by go_num, by first | rfl | exact congrArg Value.bool (decide_eq_false (by omega)), by show _ = _; rw [HPZ.out m.list[0] ⟨HLT.out, rfl⟩, HRT.out, HNT.out, decide_eq_true (by first | exact ⟨y1, y2, .inl rfl⟩ | simp [y1, y2])]; rfl, by first | exact HR.out.2 | exact HR.out.2.drew | exact below_drewN HR.out.2 _⟩
            · obtain ⟨j, rfl⟩ : ∃ j, k = j + 1 := ⟨k - 1, by omega⟩
              have hj : j < m.list.length := by omega
              have hlz := HLC.out j hj
              have HP2 := hid (HPZ.out m.list[j] ⟨by omega, rfl⟩)
              generalize m.list[j] = z at *
              have hkz : ¬ ((j : Int) + 1 = 0) := by omega
              have hkw : IntKind.i64.wrap (j : Int) = (j : Int) := IntWalk.i64_in _ ⟨by omega, by omega⟩
              have hj0 : (0 : Int) ≤ (j : Int) := by omega
              have hj1 : (j : Int) < (m.list.length : Int) := by omega
              have hj2 : ((j : Int) + 1) - 1 = (j : Int) := by omega
              have hj3 : ((j : Int) + 1 == 0) = false := by simp; omega
              have hj4 : (0 : Int) ≤ (j : Int) + 1 := by omega
              have hj5 : (j : Int) + 1 < (m.list.length : Int) := by omega
              by_cases zy : z < y
              · have zy2 : ¬ y ≤ z := by omega
                go_wp2_with fail
                go_quiet (fail)
                go_wp2_with fail
                go_roundg (m.list.length - (j + 1 + 1))
                case measure => omega
                case rel => exact ⟨j + 1 + 1, true, by omega, Nat.le_refl _, by go_num, by first | rfl | exact congrArg Value.bool (decide_eq_false (by omega)), by show _ = _; rw [HP2.out, HRT.out, HNT.out, decide_eq_true (by first | exact ⟨y1, y2, .inr zy⟩ | simp [y1, y2, zy])]; rfl, by first | exact HR.out.2 | exact HR.out.2.drew | exact below_drewN HR.out.2 _⟩
              · have zy2 : y ≤ z := by omega
                go_wp2_with fail
                go_quiet (fail)
                go_wp2_with fail
                go_roundg (m.list.length - (j + 1 + 1))
                case measure => omega
                case rel => exact ⟨j + 1 + 1, false, by omega, Nat.le_refl _, by go_num, by first | rfl | exact congrArg Value.bool (decide_eq_false (by omega)), by show _ = _; rw [HP2.out, HRT.out, HNT.out, decide_eq_false (by omega)]; rfl, by first | exact HR.out.2 | exact HR.out.2.drew | exact below_drewN HR.out.2 _⟩
          · have y2' : 16 < y := by omega
            have y2d : decide (y ≤ 16) = false := by simpa using y2
            go_wp2_with fail
            go_quiet (fail)
            go_wp2_with fail
            go_roundg (m.list.length - (k + 1))
            case measure => omega
            case rel => exact ⟨k + 1, false, by omega, Nat.le_refl _, by go_num, by first | rfl | exact congrArg Value.bool (decide_eq_false (by omega)), by show _ = _; rw [HY2.out true y2, Bool.and_false], by first | exact HR.out.2 | exact HR.out.2.drew | exact below_drewN HR.out.2 _⟩
        · have y1' : y < 1 := by omega
          have y1d : decide (1 ≤ y) = false := by simpa using y1
          go_wp2_with fail
          go_quiet (fail)
          go_wp2_with fail
          go_roundg (m.list.length - (k + 1))
          case measure => omega
          case rel => exact ⟨k + 1, false, by omega, Nat.le_refl _, by go_num, by first | rfl | exact congrArg Value.bool (decide_eq_false (by omega)), by show _ = _; rw [HY1.out true y1, Bool.and_false], by first | exact HR.out.2 | exact HR.out.2.drew | exact below_drewN HR.out.2 _⟩
    · have hlt' : ¬ (k : Int) < (m.list.length : Int) := by omega
      have HGB : Hid (B = (NB && riseB 0 m.list)) := by have h := HRB.out; rw [List.take_of_length_le (by omega)] at h; exact h
      have HB : Hid (Below W.heap.size W wr) := HR.out.2
      clear HRB HR hk hkx hlt
      clear a7
      have HTr := hid (HT.out.under HB.out)
      have a1 := cell_blk HTr.out.x 1 _ rfl
      have a5 := cell_blk HTr.out.x 5 _ rfl
      have a7 := cell_blk HTr.out.x 7 _ rfl
      have z0 := cell_blk HTr.out.z 0 _ rfl
      have z1 := cell_blk HTr.out.z 1 _ rfl
      have z2 := cell_blk HTr.out.z 2 _ rfl
      have z3 := cell_blk HTr.out.z 3 _ rfl
      have z4 := cell_blk HTr.out.z 4 _ rfl
      have fz := frz_blk HTr.out.z
      have hB : B = true := by have h := HGB.out; rw [h, ← HNB.out.symm, HNM.out, HRS.out]; rfl
      subst hB
      clear HGB
      have HF := hid (rfind_any (HC.out.under HTr.out.k.base) hf m.name)
      rw [HFX.out] at HF
      unfold findV at HF
      have HE : Hid (DgR wr x.b x.n x.vm x.vp x.vo x.vn x.d) := (HC.out.each x HMEM.out).under HTr.out.k.base
      have hbl : x.b < w.heap.size := DgR.lt (HC.out.each x HMEM.out)
      have hn1 : ¬ x.b = w.heap.size := by omega
      have hn2 : ¬ w.heap.size = x.b := by omega
      have hn3 : ¬ x.b = w.heap.size + 1 := by omega
      have hn4 : ¬ w.heap.size + 1 = x.b := by omega
      have c1 := HE.out.c1
      have c2 := HE.out.c2
      have c3 := HE.out.c3
      rw [HA0.out] at a1
      obtain ⟨va, vc, hvl, _⟩ := row_shape HE.out.mem
      rw [hvl] at c3
      clear hvl
      by_cases h16 : 16 ≤ x.d.mem.length
      · have h16a : (16 : Int) ≤ (x.d.mem.length : Int) := by omega
        have h16b : ¬ (x.d.mem.length : Int) < 16 := by omega
        go_wp2_with fail
        refine HF.out.mono ?_
        rintro e w1 ⟨rfl, rfl⟩
        go_wp2_with fail
        have HT5 := hid ((HTr.out).five rfl (.int .i64 3) (.int .i64 0) (.int .i64 0) (.int .i64 0) (.slice none 0 0))
        unfold five at HT5
        generalize ((((wr.setCell ⟨w.heap.size + 1, 0, none⟩ (.int .i64 3)).setCell ⟨w.heap.size + 1, 1, none⟩ (.int .i64 0)).setCell ⟨w.heap.size + 1, 2, none⟩ (.int .i64 0)).setCell ⟨w.heap.size + 1, 3, none⟩ (.int .i64 0)).setCell ⟨w.heap.size + 1, 4, none⟩ (.slice none 0 0) = N5 at *
        have r0 := cell_blk HT5.out.z 0 _ rfl
        have r1 := cell_blk HT5.out.z 1 _ rfl
        have r2 := cell_blk HT5.out.z 2 _ rfl
        have r3 := cell_blk HT5.out.z 3 _ rfl
        have r4 := cell_blk HT5.out.z 4 _ rfl
        exact bodyPost_ret (v := .agg #[.int .i64 3, .int .i64 0, .int .i64 0, .int .i64 0, .slice none 0 0]) (by simp [results, Try.results25, go_sem, r0, r1, r2, r3, r4]) rfl (⟨told_nil, by first | exact HT5.out.k.base | exact HT5.out.k.base.drew | exact below_drewN HT5.out.k.base _⟩)
      · have h16a : (x.d.mem.length : Int) < 16 := by omega
        have h16b : ¬ (16 : Int) ≤ (x.d.mem.length : Int) := by omega
        have hev : 1000000 ≤ x.d.ever := by rcases H16.out with h | h <;> omega
        have hev2 : ¬ x.d.ever < 1000000 := by omega
        go_wp2_with fail
        refine HF.out.mono ?_
        rintro e w1 ⟨rfl, rfl⟩
        go_wp2_with fail
        have HT5 := hid ((HTr.out).five rfl (.int .i64 3) (.int .i64 0) (.int .i64 0) (.int .i64 0) (.slice none 0 0))
        unfold five at HT5
        generalize ((((wr.setCell ⟨w.heap.size + 1, 0, none⟩ (.int .i64 3)).setCell ⟨w.heap.size + 1, 1, none⟩ (.int .i64 0)).setCell ⟨w.heap.size + 1, 2, none⟩ (.int .i64 0)).setCell ⟨w.heap.size + 1, 3, none⟩ (.int .i64 0)).setCell ⟨w.heap.size + 1, 4, none⟩ (.slice none 0 0) = N5 at *
        have r0 := cell_blk HT5.out.z 0 _ rfl
        have r1 := cell_blk HT5.out.z 1 _ rfl
        have r2 := cell_blk HT5.out.z 2 _ rfl
        have r3 := cell_blk HT5.out.z 3 _ rfl
        have r4 := cell_blk HT5.out.z 4 _ rfl
        exact bodyPost_ret (v := .agg #[.int .i64 3, .int .i64 0, .int .i64 0, .int .i64 0, .slice none 0 0]) (by simp [results, Try.results25, go_sem, r0, r1, r2, r3, r4]) rfl (⟨told_nil, by first | exact HT5.out.k.base | exact HT5.out.k.base.drew | exact below_drewN HT5.out.k.base _⟩)
end Go.Proofs.Ytdnpbhijjmlecaa

