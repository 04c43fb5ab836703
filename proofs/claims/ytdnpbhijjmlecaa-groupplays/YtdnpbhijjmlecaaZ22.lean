/- A group of the document's: cells are stored into. -/
import Derived.Test.YtdnpbhijjmlecaaZ13
import Derived.Test.YtdnpbhijjmlecaaZ18
import Derived.Test.YtdnpbhijjmlecaaZ9
import Derived.BigQuiet
import Derived.Deep.CutRange
import Derived.Deep.CutBlock
namespace Go.Proofs.Ytdnpbhijjmlecaa
open Go.RowKit Go.Maps
set_option linter.unusedSimpArgs false
set_option linter.unusedVariables false

theorem DgR.put {w W : World} {b : Nat} {n : ByteArray} {vm vp vo vn vm' vp' : Value} {d d' : Dg} (h : DgR w b n vm vp vo vn d) (hk : Keeps (fun k => k = b) w W) (hc : W.heap[b]? = some (.cells #[.string n, .int .i64 d'.gen, .int .i64 d'.ever, vm', vp', vo, vn] 61)) (ho : d'.offs = d.offs) (hn : d'.nums = d.nums) (hm : w.ownsRow 0 3 1 vm' d'.mem.length (vals d'.mem)) (h64 : ∀ x ∈ d'.mem, I64 x) (hf : d'.mem.length ≤ 1000) (hp : IL w vp' d'.parts) (am : vm'.ownBlock ≠ some b) (ap : In (fun k => k ≠ b) vp' d'.parts) (ao : vo.ownBlock ≠ some b) (an : vn.ownBlock ≠ some b) : DgR W b n vm' vp' vo vn d' := by
  have kb : ∀ k, k < w.heap.size → k ≠ b → W.heap[k]? = w.heap[k]? := fun k h1 h2 => hk.block k h1 h2
  refine ⟨hc, row_kept hm (fun k hk' => kb k (row_lt hm hk') (fun e => am (by rw [hk', e]))), h64, hf, hp.kept (X := fun k => k ≠ b ∧ k < w.heap.size) (fun hne b' off n' c' e => ⟨ap hne b' off n' c' e, hp.old hne b' off n' c' e⟩) (fun k hk' => kb k hk'.2 hk'.1) hk.size, ?_, ?_, by rw [ho]; exact h.o64, by rw [hn]; exact h.n64⟩
  · rw [ho]; exact row_kept h.offs (fun k hk' => kb k (row_lt h.offs hk') (fun e => ao (by rw [hk', e])))
  · rw [hn]; exact row_kept h.nums (fun k hk' => kb k (row_lt h.nums hk') (fun e => an (by rw [hk', e])))
theorem DgR.setp {w : World} {b : Nat} {n : ByteArray} {vm vp vo vn v : Value} {d : Dg} {l : List Int} (h : DgR w b n vm vp vo vn d) (hl : IL w v l) (hin : In (fun k => k ≠ b) v l) (am : vm.ownBlock ≠ some b) (ao : vo.ownBlock ≠ some b) (an : vn.ownBlock ≠ some b) : DgR (w.setCell ⟨b, 4, none⟩ v) b n vm v vo vn { d with parts := l } :=
  h.put (d' := { d with parts := l }) (Keeps.set (S := fun k => k = b) w (a := ⟨b, 4, none⟩) rfl v) (set_box (j := 4) (v := v) h.cells) rfl rfl h.mem h.m64 h.few hl am hin ao an
theorem DgR.setg {w : World} {b : Nat} {n : ByteArray} {vm vp vo vn : Value} {d : Dg} (h : DgR w b n vm vp vo vn d) (g : Int) (hin : In (fun k => k ≠ b) vp d.parts) (am : vm.ownBlock ≠ some b) (ao : vo.ownBlock ≠ some b) (an : vn.ownBlock ≠ some b) : DgR (w.setCell ⟨b, 1, none⟩ (.int .i64 g)) b n vm vp vo vn { d with gen := g } :=
  h.put (d' := { d with gen := g }) (Keeps.set (S := fun k => k = b) w (a := ⟨b, 1, none⟩) rfl _) (set_box (j := 1) (v := .int .i64 g) h.cells) rfl rfl h.mem h.m64 h.few h.parts am hin ao an
theorem DgR.sete {w : World} {b : Nat} {n : ByteArray} {vm vp vo vn : Value} {d : Dg} (h : DgR w b n vm vp vo vn d) (g : Int) (hin : In (fun k => k ≠ b) vp d.parts) (am : vm.ownBlock ≠ some b) (ao : vo.ownBlock ≠ some b) (an : vn.ownBlock ≠ some b) : DgR (w.setCell ⟨b, 2, none⟩ (.int .i64 g)) b n vm vp vo vn { d with ever := g } :=
  h.put (d' := { d with ever := g }) (Keeps.set (S := fun k => k = b) w (a := ⟨b, 2, none⟩) rfl _) (set_box (j := 2) (v := .int .i64 g) h.cells) rfl rfl h.mem h.m64 h.few h.parts am hin ao an
theorem DgR.setm {w : World} {b : Nat} {n : ByteArray} {vm vp vo vn v : Value} {d : Dg} {l : List Int} (h : DgR w b n vm vp vo vn d) (hl : w.ownsRow 0 3 1 v l.length (vals l)) (h64 : ∀ x ∈ l, I64 x) (hf : l.length ≤ 1000) (hv : v.ownBlock ≠ some b) (hin : In (fun k => k ≠ b) vp d.parts) (ao : vo.ownBlock ≠ some b) (an : vn.ownBlock ≠ some b) : DgR (w.setCell ⟨b, 3, none⟩ v) b n v vp vo vn { d with mem := l } :=
  h.put (d' := { d with mem := l }) (Keeps.set (S := fun k => k = b) w (a := ⟨b, 3, none⟩) rfl v) (set_box (j := 3) (v := v) h.cells) rfl rfl hl h64 hf h.parts hv hin ao an
theorem DgR.member {w W : World} {b : Nat} {n : ByteArray} {vm vp vo vn v : Value} {d : Dg} {l : List Int} (h : DgR w b n vm vp vo vn d) (hk : Keeps (fun k => vm.ownBlock = some k) w W) (hl : W.ownsRow 0 3 1 v l.length (vals l)) (h64 : ∀ x ∈ l, I64 x) (hf : l.length ≤ 1000) (hv : v.ownBlock ≠ some b) (hb : vm.ownBlock ≠ some b) (hin : In (fun k => vm.ownBlock ≠ some k ∧ k ≠ b) vp d.parts) (ho : ∀ k, vm.ownBlock = some k → vo.ownBlock ≠ some k) (hn : ∀ k, vm.ownBlock = some k → vn.ownBlock ≠ some k) (ao : vo.ownBlock ≠ some b) (an : vn.ownBlock ≠ some b) : DgR (W.setCell ⟨b, 3, none⟩ v) b n v vp vo vn { d with mem := l } := by
  have kb : ∀ k, k < w.heap.size → vm.ownBlock ≠ some k → W.heap[k]? = w.heap[k]? := fun k h1 h2 => hk.block k h1 h2
  have hs : Keeps (fun k => k = b) W (W.setCell ⟨b, 3, none⟩ v) := Keeps.set (S := fun k => k = b) W (a := ⟨b, 3, none⟩) rfl v
  have kc : ∀ k, k < w.heap.size → vm.ownBlock ≠ some k → k ≠ b → (W.setCell ⟨b, 3, none⟩ v).heap[k]? = w.heap[k]? := fun k h1 h2 h3 => (hs.block k (Nat.lt_of_lt_of_le h1 hk.size) h3).trans (kb k h1 h2)
  refine ⟨set_box (j := 3) (v := v) ((kb b h.lt hb).trans h.cells), row_kept hl (fun k hk' => hs.block k (row_lt hl hk') (fun e => hv (by rw [hk', e]))), h64, hf, h.parts.kept (X := fun k => (vm.ownBlock ≠ some k ∧ k ≠ b) ∧ k < w.heap.size) (fun hne b' off n' c' e => ⟨hin hne b' off n' c' e, h.parts.old hne b' off n' c' e⟩) (fun k hk' => kc k hk'.2 hk'.1.1 hk'.1.2) (Nat.le_trans hk.size hs.size), row_kept h.offs (fun k hk' => kc k (row_lt h.offs hk') (fun e => ho k e hk') (fun e => ao (by rw [hk', e]))), row_kept h.nums (fun k hk' => kc k (row_lt h.nums hk') (fun e => hn k e hk') (fun e => an (by rw [hk', e]))), h.o64, h.n64⟩
theorem joinDD_parts (d : Dg) (m : Rc) : (joinDD d m).parts = m.list := by unfold joinDD; split <;> rfl
theorem joinDD_gen (d : Dg) (m : Rc) : (joinDD d m).gen = d.gen + 1 := by unfold joinDD; split <;> rfl
theorem joinDD_neg {d : Dg} {m : Rc} (h : ¬ m.a = 0) : joinDD d m = { ({ d with parts := m.list } : Dg) with gen := d.gen + 1 } := by unfold joinDD; rw [if_neg h]
theorem joinDD_mem {d : Dg} {m : Rc} (h : ¬ m.a = 0) : (joinDD d m).mem = d.mem := by unfold joinDD; rw [if_neg h]
theorem joinDD_zero {d : Dg} {m : Rc} (h : m.a = 0) : joinDD d m = { ({ ({ ({ d with ever := d.ever + 1 } : Dg) with mem := d.mem ++ [d.ever + 1] } : Dg) with parts := m.list } : Dg) with gen := d.gen + 1 } := by unfold joinDD; rw [if_pos h]
theorem joinDD_mem0 {d : Dg} {m : Rc} (h : m.a = 0) : (joinDD d m).mem = d.mem ++ [d.ever + 1] := by unfold joinDD; rw [if_pos h]
end Go.Proofs.Ytdnpbhijjmlecaa

/- The document's Join: a member that comes again. -/
namespace Go.Proofs.Ytdnpbhijjmlecaa
open Go.RowKit Go.Maps
set_option maxRecDepth 100000
set_option linter.unusedSimpArgs false
set_option linter.unusedVariables false

set_option maxHeartbeats 3200000 in
theorem rj_again {w : World} {r : Nat} {vl : Value} {es : List Ent} {ep : Int} (h : DC w r vl es ep) (hf : es.length ≤ 1000) (m : Rc) (la : Option Addr) (lc : Nat) (hl : IL w (.slice la m.list.length lc) m.list) (hnm : m.name.size ≤ maxLen) (hn : nameB m.name = true) (hr : riseB 0 m.list = true) (ha : 0 < m.a) (x : Ent) (hx : findX es m.name = some x) (hb : hasB x.d.mem m.a = true) (hg : 0 ≤ x.d.gen ∧ x.d.gen ≤ 1000000) (am : x.vm.ownBlock ≠ some x.b) (ao : x.vo.ownBlock ≠ some x.b) (an : x.vn.ownBlock ≠ some x.b) : Calls Try.prog 25 #[.pointer (some ⟨r, 0, none⟩), recV m (.slice la m.list.length lc)] w fun e w' => ∃ vp', Keeps (fun k => k = x.b) w w' ∧ DgR w' x.b x.n x.vm vp' x.vo x.vn (joinDD x.d m) ∧ In (fun k => w.heap.size ≤ k) vp' m.list ∧ ToldP (fun b => w.heap.size ≤ b) w' ⟨0, m.a, x.d.gen + 1, 0, partsD x.d.mem m.list m.a⟩ e := by
  have HNM := hid hn
  have HRS := hid hr
  clear hn hr
  have HFX := hid hx
  have HMEM := hid (findX_mem hx)
  have HHB := hid hb
  have HAP := hid (And.intro am (And.intro ao an))
  clear hx hb am ao an
  have HC := hid h
  have hT := tb8_new (fun _ => False) w (recA m (.slice la m.list.length lc)) zTd
  have HT := hid hT
  unfold recV recA zTd at *
  go_enter Try.func25, Try.ntmps25
  go_upto_region 1 with fail
  generalize (w.alloc (.cells #[.int .i64 m.kind, .int .i64 m.a, .int .i64 m.b, .int .i64 m.c, .int .i64 m.d, .string m.name, .string m.text, .slice la m.list.length lc] 32)).alloc (.cells #[.int .i64 0, .int .i64 0, .int .i64 0, .int .i64 0, .slice none 0 0] 38) = W at *
  have a5 := cell_blk HT.out.x 5 _ rfl
  have a7 := cell_blk HT.out.x 7 _ rfl
  have HRI := hid (rright_any m.name W hnm)
  have HLI := hid (hl.under HT.out.k.base)
  have hlf : m.list.length ≤ 17592186044415 := hl.few
  obtain ⟨NB, hNB⟩ : ∃ B, B = nameB m.name := ⟨_, rfl⟩
  have HNB := hid hNB
  rw [← hNB] at HRI
  clear hNB hT h hl hnm
  go_wp2_with fail
  refine HRI.out.mono ?_
  rintro e w1 ⟨rfl, rfl⟩
  go_wp2_with fail
  go_loopg [5, 6] m.list.length (fun kx s5 s6 wr => ∃ (k : Nat) (B : Bool), k ≤ m.list.length ∧ m.list.length - k ≤ kx ∧ s6 = .int .i64 (k : Int) ∧ s5 = .bool B ∧ Hid (B = (NB && riseB 0 (m.list.take k))) ∧ Hid (Below W.heap.size W wr))
  case atStart => exact ⟨0, NB, Nat.zero_le _, by omega, rfl, rfl, by show _ = _; simp [riseB], Below.refl _ _⟩
  case round =>
    obtain ⟨k, B, hk, hkx, rfl, rfl, HRB, HR⟩ := hrel
    have HR : Hid (True ∧ Below W.heap.size W wr) := ⟨trivial, HR.out⟩
    clear a5 a7
    have a7 := cell_blk (HT.out.under HR.out.2).x 7 _ rfl
    by_cases hlt : k < m.list.length
    · have hlt' : (k : Int) < (m.list.length : Int) := by omega
      have HS := hid (riseB_take m.list k hlt)
      obtain ⟨lb, lo, rfl, hlc⟩ := (HLI.out.under HR.out.2).cellAt k hlt
      have HLC := hid fun j hj => IL.cellAt' (HLI.out.under HR.out.2) j (List.getElem?_eq_getElem hj)
      have HLT := hid hlt
      have HPZ : Hid (∀ z, (∃ h : k - 1 < m.list.length, m.list[k - 1] = z) → riseB 0 (m.list.take (k + 1)) = (riseB 0 (m.list.take k) && decide (1 ≤ m.list[k] ∧ m.list[k] ≤ 16 ∧ (k = 0 ∨ z < m.list[k])))) := fun z hz => by
        obtain ⟨h, rfl⟩ := hz
        exact HS.out
      clear HS
      generalize m.list[k] = y at *
      have hy1 : ∀ b : Bool, ¬ 1 ≤ y → riseB 0 (m.list.take (k + 1)) = false := fun _ h => by
        rw [HPZ.out m.list[k - 1] ⟨by omega, rfl⟩, decide_eq_false (fun e => h e.1), Bool.and_false]
      have HY1 := hid hy1
      have hy2 : ∀ b : Bool, ¬ y ≤ 16 → riseB 0 (m.list.take (k + 1)) = false := fun _ h => by
        rw [HPZ.out m.list[k - 1] ⟨by omega, rfl⟩, decide_eq_false (fun e => h e.2.1), Bool.and_false]
      have HY2 := hid hy2
      clear hy1 hy2
      cases B with
      | false =>
        go_wp2_with fail
        go_quiet (fail)
        go_wp2_with fail
        go_roundg (m.list.length - (k + 1))
        case measure => omega
        case rel => exact ⟨k + 1, false, by omega, Nat.le_refl _, by go_num, by first | rfl | exact congrArg Value.bool (decide_eq_false (by omega)), by show _ = _; have h := HRB.out; rw [HPZ.out m.list[k - 1] ⟨by omega, rfl⟩, ← Bool.and_assoc, ← h]; rfl, by first | exact HR.out.2 | exact HR.out.2.drew | exact below_drewN HR.out.2 _⟩
      | true =>
        have hnb : NB = true ∧ riseB 0 (m.list.take k) = true := by have h := HRB.out; simpa using h.symm
        have HNT := hid hnb.1
        have HRT := hid hnb.2
        clear hnb
        by_cases y1 : 1 ≤ y
        · have y1' : ¬ y < 1 := by omega
          by_cases y2 : y ≤ 16
          · have y2' : ¬ 16 < y := by omega
            by_cases k0 : k = 0
            · subst k0
              have hl0 : (0 : Int) < (m.list.length : Int) := by omega
              rw [Nat.add_zero] at hlc
              clear hlt hlt'
              go_wp2_with fail
              go_quiet (fail)
              go_wp2_with fail
              go_roundg (m.list.length - (0 + 1))
              case measure => omega
              case rel => exact ⟨0 + 1, true, by omega, Nat.le_refl _, by go_num, by first | rfl | exact congrArg Value.bool (decide_eq_false (by omega)), by show _ = _; rw [HPZ.out m.list[0] ⟨HLT.out, rfl⟩, HRT.out, HNT.out, decide_eq_true (by first | exact ⟨y1, y2, .inl rfl⟩ | simp [y1, y2])]; rfl, by first | exact HR.out.2 | exact HR.out.2.drew | exact below_drewN HR.out.2 _⟩
            · obtain ⟨j, rfl⟩ : ∃ j, k = j + 1 := ⟨k - 1, by omega⟩
              have hj : j < m.list.length := by omega
              have hlz := HLC.out j hj
              have HP2 := hid (HPZ.out m.list[j] ⟨by omega, rfl⟩)
              generalize m.list[j] = z at *
              have hkz : ¬ ((j : Int) + 1 = 0) := by omega
              have hkw : IntKind.i64.wrap (j : Int) = (j : Int) := IntWalk.i64_in _ ⟨by omega, by omega⟩
              have hj0 : (0 : Int) ≤ (j : Int) := by omega
              have hj1 : (j : Int) < (m.list.length : Int) := by omega
              have hj2 : ((j : Int) + 1) - 1 = (j : Int) := by omega
              have hj3 : ((j : Int) + 1 == 0) = false := by simp; omega
              have hj4 : (0 : Int) ≤ (j : Int) + 1 := by omega
              have hj5 : (j : Int) + 1 < (m.list.length : Int) := by omega
              by_cases zy : z < y
              · have zy2 : ¬ y ≤ z := by omega
                go_wp2_with fail
                go_quiet (fail)
                go_wp2_with fail
                go_roundg (m.list.length - (j + 1 + 1))
                case measure => omega
                case rel => exact ⟨j + 1 + 1, true, by omega, Nat.le_refl _, by go_num, by first | rfl | exact congrArg Value.bool (decide_eq_false (by omega)), by show _ = _; rw [HP2.out, HRT.out, HNT.out, decide_eq_true (by first | exact ⟨y1, y2, .inr zy⟩ | simp [y1, y2, zy])]; rfl, by first | exact HR.out.2 | exact HR.out.2.drew | exact below_drewN HR.out.2 _⟩
              · have zy2 : y ≤ z := by omega
                go_wp2_with fail
                go_quiet (fail)
                go_wp2_with fail
                go_roundg (m.list.length - (j + 1 + 1))
                case measure => omega
                case rel => exact ⟨j + 1 + 1, false, by omega, Nat.le_refl _, by go_num, by first | rfl | exact congrArg Value.bool (decide_eq_false (by omega)), by show _ = _; rw [HP2.out, HRT.out, HNT.out, decide_eq_false (by omega)]; rfl, by first | exact HR.out.2 | exact HR.out.2.drew | exact below_drewN HR.out.2 _⟩
          · have y2' : 16 < y := by omega
            have y2d : decide (y ≤ 16) = false := by simpa using y2
            go_wp2_with fail
            go_quiet (fail)
            go_wp2_with fail
            go_roundg (m.list.length - (k + 1))
            case measure => omega
            case rel => exact ⟨k + 1, false, by omega, Nat.le_refl _, by go_num, by first | rfl | exact congrArg Value.bool (decide_eq_false (by omega)), by show _ = _; rw [HY2.out true y2, Bool.and_false], by first | exact HR.out.2 | exact HR.out.2.drew | exact below_drewN HR.out.2 _⟩
        · have y1' : y < 1 := by omega
          have y1d : decide (1 ≤ y) = false := by simpa using y1
          go_wp2_with fail
          go_quiet (fail)
          go_wp2_with fail
          go_roundg (m.list.length - (k + 1))
          case measure => omega
          case rel => exact ⟨k + 1, false, by omega, Nat.le_refl _, by go_num, by first | rfl | exact congrArg Value.bool (decide_eq_false (by omega)), by show _ = _; rw [HY1.out true y1, Bool.and_false], by first | exact HR.out.2 | exact HR.out.2.drew | exact below_drewN HR.out.2 _⟩
    · have hlt' : ¬ (k : Int) < (m.list.length : Int) := by omega
      have HGB : Hid (B = (NB && riseB 0 m.list)) := by have h := HRB.out; rw [List.take_of_length_le (by omega)] at h; exact h
      have HB : Hid (Below W.heap.size W wr) := HR.out.2
      clear HRB HR hk hkx hlt
      clear a7
      have HTr := hid (HT.out.under HB.out)
      have a1 := cell_blk HTr.out.x 1 _ rfl
      have a5 := cell_blk HTr.out.x 5 _ rfl
      have a7 := cell_blk HTr.out.x 7 _ rfl
      have z0 := cell_blk HTr.out.z 0 _ rfl
      have z1 := cell_blk HTr.out.z 1 _ rfl
      have z2 := cell_blk HTr.out.z 2 _ rfl
      have z3 := cell_blk HTr.out.z 3 _ rfl
      have z4 := cell_blk HTr.out.z 4 _ rfl
      have fz := frz_blk HTr.out.z
      have hB : B = true := by have h := HGB.out; rw [h, ← HNB.out.symm, HNM.out, HRS.out]; rfl
      subst hB
      clear HGB
      have HF := hid (rfind_any (HC.out.under HTr.out.k.base) hf m.name)
      rw [HFX.out] at HF
      unfold findV at HF
      have HE : Hid (DgR wr x.b x.n x.vm x.vp x.vo x.vn x.d) := (HC.out.each x HMEM.out).under HTr.out.k.base
      have hbl : x.b < w.heap.size := DgR.lt (HC.out.each x HMEM.out)
      have hn1 : ¬ x.b = w.heap.size := by omega
      have hn2 : ¬ w.heap.size = x.b := by omega
      have hn3 : ¬ x.b = w.heap.size + 1 := by omega
      have hn4 : ¬ w.heap.size + 1 = x.b := by omega
      have c1 := HE.out.c1
      have c2 := HE.out.c2
      have c3 := HE.out.c3
      have ha2 : ¬ m.a < 0 := by omega
      have ha3 : (m.a == 0) = false := by simp; omega
      have hB0 : Below wr.heap.size wr wr := Below.refl _ _
      have HH : Hid (∀ V, Below wr.heap.size wr V → Calls Try.prog 28 #[x.vm, .int .i64 m.a] V fun e w' => e = .returned (.bool true) ∧ V = w') := fun V hV => by
        have := rhas_any (HE.out.il.under hV) m.a
        rw [HHB.out] at this
        exact this
      go_wp2_with fail
      refine HF.out.mono ?_
      rintro e w1 ⟨rfl, rfl⟩
      go_wp2_with fail
      go_region_held3 (fun V => V.cell? ⟨x.b, 3, none⟩ = some x.vm ∧ V.cell? ⟨w.heap.size, 1, none⟩ = some (.int .i64 m.a)) (go_keep)
        (first | (go_at_call 28; refine (HH.out _ (by first | exact hB0 | exact hB0.drew)).mono ?_; rintro e w1 ⟨rfl, rfl⟩) | fail)
      obtain ⟨wd, hwd, hbd⟩ : ∃ wd, wd = wr.drew ∧ Below wr.heap.size wr wd := ⟨_, rfl, (Below.refl _ _).drew⟩
      have HEd : Hid (DgR wd x.b x.n x.vm x.vp x.vo x.vn x.d) := HE.out.under hbd
      have HTd := hid (HTr.out.under hbd)
      have HLW := hid (HLI.out.under (HB.out.trans (hbd.mono HB.out.size)))
      have HBd := hid (HB.out.trans (hbd.mono HB.out.size))
      rw [← hwd]
      clear hwd hbd a1 a5 a7 z0 z1 z2 z3 z4 fz c1 c2 c3
      have a1 := cell_blk HTd.out.x 1 _ rfl
      have a5 := cell_blk HTd.out.x 5 _ rfl
      have a7 := cell_blk HTd.out.x 7 _ rfl
      have z0 := cell_blk HTd.out.z 0 _ rfl
      have z1 := cell_blk HTd.out.z 1 _ rfl
      have z2 := cell_blk HTd.out.z 2 _ rfl
      have z3 := cell_blk HTd.out.z 3 _ rfl
      have z4 := cell_blk HTd.out.z 4 _ rfl
      have fz := frz_blk HTd.out.z
      have c1 := HEd.out.c1
      have c2 := HEd.out.c2
      have c3 := HEd.out.c3
      clear HE HTr HB HH hB0
      have HE := HEd
      have HTr := HTd
      have HB := HBd
      clear HEd HTd HBd
      generalize wd = wr at *
      obtain ⟨i0, hi0, hz0, hz1, hz2⟩ := info3
      have hbx := DgR.lt HE.out
      have HRW0 := hid (row_new wr)
      have HON := hid (vals_one m.list)
      have HB0 : Hid (Below wr.heap.size wr (wr.alloc (.cells #[] 3))) := (Below.refl _ _).alloc (Nat.le_refl _) _
      have HIL0 := hid (HLW.out.under HB0.out)
      have HOUT : Hid (∀ x2 w2, w2.ownsRow wr.heap.size 3 1 x2 (0 + m.list.length) ([] ++ vals m.list) → (wr.alloc (.cells #[] 3)).grownBy w2 (some wr.heap.size) → Below wr.heap.size wr w2 ∧ IL w2 x2 m.list ∧ In (fun b => wr.heap.size ≤ b) x2 m.list ∧ ∃ a c, x2 = .slice a m.list.length c) := fun x2 w2 h1 h2 => by
        obtain ⟨g1, g2⟩ := fresh_list HIL0.out.ok hlf h1
        have g3 := g1
        obtain ⟨⟨ga, gc, ge, _⟩, _⟩ := g3
        exact ⟨HB0.out.grown h2 HB0.out.size (fun j hj => by cases hj; exact Nat.le_refl _), g1, g2, ga, gc, ge⟩
      have fx := DgR.fz HE.out
      have hs0 := HTr.out.s
      have q1 : w.heap.size < wr.heap.size := by omega
      have q2 : ¬ w.heap.size = wr.heap.size := by omega
      have q3 : ¬ wr.heap.size = w.heap.size := by omega
      have a7n := cell_blk (HTr.out.under HB0.out).x 7 _ rfl
      go_upto_region 30 with fail
      go_cut [] from 202 to 209 (fun V => ∃ (pa : Option Addr) (pc : Nat) (w2 : World), Hid (Below wr.heap.size wr w2 ∧ IL w2 (.slice pa m.list.length pc) m.list ∧ In (fun b => wr.heap.size ≤ b) (.slice pa m.list.length pc) m.list) ∧ Hid (V = w2.setCell ⟨x.b, 4, none⟩ (.slice pa m.list.length pc)))
      case first =>
        cases la with
        | none =>
          have hl0 : m.list.length = 0 ∧ lc = 0 ∧ m.list = [] := by have := HIL0.out.none_nil; exact ⟨this.1, this.2.1, this.2.2⟩
          obtain ⟨g1, hlc0, hlnil⟩ := hl0
          rw [g1, hlc0] at a7 a7n
          have HG := hid g1
          have HLN := hid hlnil
          clear g1 hlnil hlc0
          have c4 := (DgR.under HE.out HB0.out).c4
          go_wp2_with (at_builtin; refine wpList_append_own_none rfl _ _ 30 rfl wr.heap.size 3 i0 1 Try.underlying30 hi0 _ 0 [] rfl HRW0.out rfl ?_)
          go_meet
          case rel => exact ⟨_, _, _, ⟨HB0.out, by rw [HG.out, HLN.out]; exact IL.of HRW0.out (fun y hy => by cases hy) (by simp), by rw [HLN.out]; exact In.nil _ _⟩, by show _ = _; rw [HG.out]; exact (World.setCell_alloc_past (w := wr) (.cells #[] 3) x.b 4 _ hbx).symm⟩
        | some ad =>
          have HNW : Hid (∀ j u, (vals m.list)[j]? = some u → (wr.alloc (.cells #[] 3)).cell? (ad.add j) = some u) := HIL0.out.vcells.2
          have HLn : Hid ((vals m.list).length = m.list.length * 1) := by show _ = _; rw [vals_length]; omega
          go_wp2_with (at_builtin; refine wpList_append_own_at _ rfl _ _ 30 rfl wr.heap.size 3 i0 _ 1 8 Try.underlying30 hi0 hz0 hz1 hz2 rfl (by decide) _ 0 [] rfl HRW0.out ad m.list.length lc (vals m.list) rfl HLn.out HNW.out HON.out (by unfold maxLen; omega) (by omega) (by simp) ?_; intro x2 w2 hown2 hg2 _ _; obtain ⟨o1, o2, o3, xa, xc, rfl⟩ := HOUT.out x2 w2 hown2 hg2; have fx2 : ∀ j, w2.frozen? ⟨x.b, j, none⟩ = false := fun j => DgR.fz (DgR.under HE.out o1) j; have c42 := (DgR.under HE.out o1).c4; have HO1 := hid o1; have HO2 := hid o2; have HO3 := hid o3; clear o1 o2 o3 hown2 hg2)
          go_meet
          case rel => exact ⟨_, _, _, ⟨HO1.out, HO2.out, HO3.out⟩, rfl⟩
      case rest =>
        obtain ⟨pa, pc, w2, HW2, HV2⟩ := hcut
        have HAPx := HAP.out
        have hD2 : DgR w2 x.b x.n x.vm x.vp x.vo x.vn x.d := HE.out.under HW2.out.1
        have hin2 : In (fun k => k ≠ x.b) (.slice pa m.list.length pc) m.list := HW2.out.2.2.mono fun k hk => by have : wr.heap.size ≤ k := hk; have := DgR.lt HE.out; omega
        have HIN2 := hid hin2
        have HD3 := hid (DgR.setp hD2 HW2.out.2.1 hin2 HAP.out.1 HAPx.2.1 HAPx.2.2)
        have HT3 := hid (((HTr.out.under HW2.out.1).mono (Z' := fun k => k = x.b) (fun _ h => h.elim)).next (Keeps.set (S := fun k => k = x.b) w2 (a := ⟨x.b, 4, none⟩) rfl (.slice pa m.list.length pc)) (fun k h => .inl (h)) hn2 hn4)
        rw [← HV2.out] at HD3 HT3
        have HKX : Hid (Below wr.heap.size wr w2 ∧ IL w2 (.slice pa m.list.length pc) m.list ∧ In (fun k => wr.heap.size ≤ k) (.slice pa m.list.length pc) m.list) := HW2
        have hwl : wr.heap.size ≤ wc.heap.size := by rw [HV2.out]; have := HW2.out.1.size; simpa using this
        have c1 : wc.cell? ⟨x.b, 1, none⟩ = some (.int .i64 x.d.gen) := HD3.out.c1
        have fx : ∀ j, wc.frozen? ⟨x.b, j, none⟩ = false := fun j => HD3.out.fz j
        obtain ⟨g, hgE⟩ : ∃ g, g = x.d.gen := ⟨_, rfl⟩
        have HGE := hid hgE
        rw [← hgE] at c1 hg
        clear hD2 hin2 hgE HAPx
        go_upto_region 32 with fail
        have HD4 := hid (DgR.setg HD3.out (g + 1) HIN2.out HAP.out.1 HAP.out.2.1 HAP.out.2.2)
        have HT4 := hid (HT3.out.next (Keeps.set (S := fun k => k = x.b) wc (a := ⟨x.b, 1, none⟩) rfl (.int .i64 (g + 1))) (fun k h => .inl (h)) hn2 hn4)
        have HK4 := hid (Keeps.set (S := fun k => k = x.b) wc (a := ⟨x.b, 1, none⟩) rfl (.int .i64 (g + 1)))
        have HS4 : Hid ((wc.setCell ⟨x.b, 1, none⟩ (.int .i64 (g + 1))).heap.size = wc.heap.size) := by show _ = _; simp
        generalize wc.setCell ⟨x.b, 1, none⟩ (.int .i64 (g + 1)) = W4 at *
        clear c1 fx HD3 HT3
        have HDJ : Hid (DgR W4 x.b x.n x.vm (.slice pa m.list.length pc) x.vo x.vn (joinDD x.d m)) := by
          have h := HD4.out
          rw [HGE.out] at h
          rw [joinDD_neg (show ¬ m.a = 0 by omega)]
          exact h
        clear HD4
        have c1 : W4.cell? ⟨x.b, 1, none⟩ = some (.int .i64 (g + 1)) := by rw [HGE.out]; have h9 := HDJ.out.c1; rw [joinDD_gen] at h9; exact h9
        obtain ⟨P, hP⟩ : ∃ P, P = partsD x.d.mem m.list m.a := ⟨_, rfl⟩
        have HPE := hid hP
        have HP : Hid (∀ V, Below W4.heap.size W4 V → Calls Try.prog 29 #[.pointer (some ⟨x.b, 0, none⟩), .int .i64 (m.a)] V fun e w' => ∃ a c, e = .returned (.slice a P.length c) ∧ IL w' (.slice a P.length c) P ∧ In (fun k => V.heap.size ≤ k) (.slice a P.length c) P ∧ Below V.heap.size V w') := by rw [hP]; intro V hV; have h9 := rparts_any (HDJ.out.under hV) (m.a); rw [joinDD_parts, joinDD_mem (show ¬ m.a = 0 by omega)] at h9; exact h9
        clear hP
        have HC1 : Hid (∀ V, Below W4.heap.size W4 V → V.cell? ⟨x.b, 1, none⟩ = some (.int .i64 (g + 1))) := by
          intro V hV
          have h9 := (HDJ.out.under hV).c1
          rw [joinDD_gen, ← HGE.out] at h9
          exact h9
        have hB0 : Below W4.heap.size W4 W4 := Below.refl _ _
        go_region_held3 (fun V => V.cell? ⟨x.b, 1, none⟩ = some (.int .i64 (g + 1))) (go_keep)
          (first | (go_at_call 29; refine (HP.out _ (by repeat (first | exact hB0 | apply Below.drew))).mono ?_; rintro e w5 ⟨qa, qc, rfl, hil5, hin5, hb5⟩; have hB5 := (show Below W4.heap.size W4 _ by repeat (first | exact hB0 | apply Below.drew)).trans hb5; have HIL5 := hid hil5; have HIN5 := hid hin5; have HB5 := hid hB5; have HT6 := hid (HT4.out.under hB5); have c1 := HC1.out _ hB5; have z0 := cell_blk HT6.out.z 0 _ rfl; have z1 := cell_blk HT6.out.z 1 _ rfl; have z2 := cell_blk HT6.out.z 2 _ rfl; have z3 := cell_blk HT6.out.z 3 _ rfl; have z4 := cell_blk HT6.out.z 4 _ rfl; have fz := frz_blk HT6.out.z) | fail)
        go_wp2_with fail
        have HT5 := hid ((HT6.out).five rfl (.int .i64 0) (.int .i64 (m.a)) (.int .i64 (g + 1)) (.int .i64 0) (.slice qa P.length qc))
        have HK5 := hid (five_keeps w5 (w.heap.size + 1) (.int .i64 0) (.int .i64 (m.a)) (.int .i64 (g + 1)) (.int .i64 0) (.slice qa P.length qc))
        unfold five at HT5 HK5
        generalize ((((w5.setCell ⟨w.heap.size + 1, 0, none⟩ (.int .i64 0)).setCell ⟨w.heap.size + 1, 1, none⟩ (.int .i64 (m.a))).setCell ⟨w.heap.size + 1, 2, none⟩ (.int .i64 (g + 1))).setCell ⟨w.heap.size + 1, 3, none⟩ (.int .i64 0)).setCell ⟨w.heap.size + 1, 4, none⟩ (.slice qa P.length qc) = N5 at *
        have hs0 := HTr.out.s
        have hs4 : W4.heap.size = wc.heap.size := HS4.out
        have hs5 := HB5.out.size
        have hi5 : IL N5 (.slice qa P.length qc) P := HIL5.out.kept (X := fun k => W4.heap.size ≤ k ∧ k < w5.heap.size) (fun hn b off n c e => ⟨(HIN5.out hn b off n c e : W4.heap.size ≤ b), HIL5.out.old hn b off n c e⟩) (fun k hk => HK5.out.block k hk.2 (by omega)) HK5.out.size
        have hin : In (fun k => w.heap.size ≤ k) (.slice qa P.length qc) P := fun hn b off n c e => by have : W4.heap.size ≤ b := HIN5.out hn b off n c e; omega
        have hPO : ∀ V, Below N5.heap.size N5 V → ∃ vp', Keeps (fun k => k = x.b) w V ∧ DgR V x.b x.n x.vm vp' x.vo x.vn (joinDD x.d m) ∧ In (fun k => w.heap.size ≤ k) vp' m.list ∧ ToldP (fun b => w.heap.size ≤ b) V ⟨0, m.a, x.d.gen + 1, 0, partsD x.d.mem m.list m.a⟩ (.returned (.agg #[.int .i64 0, .int .i64 (m.a), .int .i64 (g + 1), .int .i64 0, .slice qa P.length qc])) := fun V hV => by
          have h1 : DgR N5 x.b x.n x.vm (.slice pa m.list.length pc) x.vo x.vn (joinDD x.d m) := (HDJ.out.under HB5.out).off HK5.out hn3 (fun e => by have := row_lt (HC.out.each x HMEM.out).mem e; omega) (fun e => by have := row_lt (HC.out.each x HMEM.out).offs e; omega) (fun e => by have := row_lt (HC.out.each x HMEM.out).nums e; omega) (by rw [joinDD_parts]; exact HW2.out.2.2.mono fun k hk => by have : wr.heap.size ≤ k := hk; omega)
          refine ⟨_, HT5.out.k.trans (Keeps.of_below (S := fun k => k = x.b) hV) (fun k e => .inl e), h1.under hV, HW2.out.2.2.mono fun k hk => by have : wr.heap.size ≤ k := hk; omega, ?_⟩
          rw [← HGE.out, ← HPE.out]
          exact ⟨qa, qc, rfl, hi5.under hV, hin⟩
        have HPOST := hid hPO
        clear hPO hi5 hin
        have r0 := cell_blk HT5.out.z 0 _ rfl
        have r1 := cell_blk HT5.out.z 1 _ rfl
        have r2 := cell_blk HT5.out.z 2 _ rfl
        have r3 := cell_blk HT5.out.z 3 _ rfl
        have r4 := cell_blk HT5.out.z 4 _ rfl
        exact bodyPost_ret (v := .agg #[.int .i64 0, .int .i64 (m.a), .int .i64 (g + 1), .int .i64 0, .slice qa P.length qc]) (by simp [results, Try.results25, go_sem, r0, r1, r2, r3, r4]) rfl (HPOST _ (Below.refl _ _))
end Go.Proofs.Ytdnpbhijjmlecaa

