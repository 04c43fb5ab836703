/- Why a broker's life may not be made up, or fenced. -/
import Derived.Test.YtcffomhcmilcpaaGreatA8
import Derived.Deep.CutRange
import Derived.Deep.CutBlock
namespace Go.Proofs.YtcffomhcmilcpaaGreat
open Go.RowKit Go.Maps
set_option maxRecDepth 100000
set_option linter.unusedSimpArgs false
set_option linter.unusedVariables false

set_option maxHeartbeats 3200000 in
theorem refused_any {w : World} {L : Nat → Prop} {q b : Nat} {vt vp ve : Value} {ps : List (Value × Pt)} {I : Im} (h : ImC w L q b vt vp ve ps I) {v : Value} {r : Rc} (hr : RecM w v r) (up : Bool) : Calls Tryz.prog 116 #[.pointer (some ⟨q, 0, none⟩), v, .bool up] w fun e w' => e = .returned (.int .i64 (refusedI I r up)) ∧ Below w.heap.size w w' := by
  obtain ⟨⟨lv, rfl, hil⟩, ok, _⟩ := hr
  obtain ⟨⟨la, lc, rfl, _⟩, _⟩ := hil
  obtain ⟨rk, ra, rb, rc, rd, rn, rt, rl⟩ := r
  simp only at ok ⊢
  have oka := ok.a
  have okb := ok.b
  simp only at oka okb
  have HBR := hid (fun W => broker_any ra W oka)
  have HF : Hid (refusedI I ⟨rk, ra, rb, rc, rd, rn, rt, rl⟩ up = if !upB ra 7 then 1 else if (getB I.brs ra).isNone then 8 else if rb ≠ (valB I.brs ra).life then 13 else if (valB I.brs ra).up = up then 19 else 0) := rfl
  have hbA : Below w.heap.size w (w.alloc (.cells #[.int .i64 rk, .int .i64 ra, .int .i64 rb, .int .i64 rc, .int .i64 rd, .string rn, .string rt, .slice la rl.length lc] 34)) := (Below.refl _ _).alloc (Nat.le_refl _) _
  have h1 := h.under hbA
  have hB := heap_alloc_new w (.cells #[.int .i64 rk, .int .i64 ra, .int .i64 rb, .int .i64 rc, .int .i64 rd, .string rn, .string rt, .slice la rl.length lc] 34)
  have c1 := h1.c1
  have hqlt : q < w.heap.size := h.lt (.inl rfl)
  have hWs : (w.alloc (.cells #[.int .i64 rk, .int .i64 ra, .int .i64 rb, .int .i64 rc, .int .i64 rd, .string rn, .string rt, .slice la rl.length lc] 34)).heap.size = w.heap.size + 1 := by simp
  have HBA := hid hbA
  have a1 := cell_blk hB 1 _ rfl
  have a2 := cell_blk hB 2 _ rfl
  have hlk : ∀ V, Below w.heap.size w V → (Instr.lookup 67 (.map (some b)) (.int .i64 ra) true).run Tryz.prog V = .ok (.tuple #[(valB I.brs ra).val, .bool (getB I.brs ra).isSome]) V := fun V hV => (h.under hV).look_ok ra oka
  obtain ⟨⟨lf, bu⟩, hvb⟩ : ∃ x, x = valB I.brs ra := ⟨_, rfl⟩
  obtain ⟨kn, hkn⟩ : ∃ x, x = (getB I.brs ra).isSome := ⟨_, rfl⟩
  have hno : (getB I.brs ra).isNone = !kn := by rw [hkn]; cases getB I.brs ra <;> rfl
  rw [← hvb, hno] at HF
  rw [← hvb, ← hkn] at hlk
  simp only [Br.val] at hlk
  have hlf : I64 lf := by
    have e : lf = (valB I.brs ra).life := by rw [← hvb]
    rw [e]
    unfold valB
    cases hg : getB I.brs ra with
    | none => unfold I64 zeroB; simp
    | some x => have := (h.ok.brs _ (getB_mem hg)).2; simp only [Option.getD_some] at this ⊢; unfold I64; omega
  unfold I64 at oka okb hlf
  simp only at HF
  generalize refusedI I ⟨rk, ra, rb, rc, rd, rn, rt, rl⟩ up = R at *
  clear hvb hkn hno h h1 hB hbA ok
  go_enter Tryz.func116, Tryz.ntmps116
  go_upto_region 1 with fail
  generalize w.alloc (.cells #[.int .i64 rk, .int .i64 ra, .int .i64 rb, .int .i64 rc, .int .i64 rd, .string rn, .string rt, .slice la rl.length lc] 34) = W at *
  have k1 := hlk _ HBA.out.drew
  have k2 := hlk _ (HBA.out.alloc (by omega) (.cells #[.int .i64 0, .bool false] 93)).drew
  clear hlk
  obtain ⟨x, hx⟩ : ∃ x, x = w.heap.size := ⟨_, rfl⟩
  rw [← hx] at a1 a2 hWs HBA hqlt ⊢
  have HX := hid hx
  clear hx
  go_cut [7, 8] from 7 to 18 (fun s7 s8 W2 => s7 = .pointer (some ⟨x + 1, 0, none⟩) ∧ s8 = .bool kn ∧ Hid (W2.heap[x + 1]? = some (.cells #[.int .i64 lf, .bool bu] 93) ∧ Below (x + 1) W W2))
  case first =>
    have HA : Hid (W.heap.size = x + 1) := hWs
    have n1 : ¬ x = W.heap.size := by omega
    have n2 : ¬ q = W.heap.size := by omega
    have n3 : ¬ W.heap.size = x := by omega
    have n4 : ¬ W.heap.size = q := by omega
    have n5 : x < W.heap.size := by omega
    have n6 : q < W.heap.size := by omega
    clear hWs
    have HN : Hid ((W.alloc (.cells #[.int .i64 lf, .bool bu] 93)).heap[x + 1]? = some (.cells #[.int .i64 lf, .bool bu] 93) ∧ Below (x + 1) W (W.alloc (.cells #[.int .i64 lf, .bool bu] 93)).drew) := by
      have := heap_alloc_new W (.cells #[.int .i64 lf, .bool bu] 93)
      rw [HA.out] at this
      exact ⟨this, ((Below.refl _ _).alloc (by rw [HA.out]; exact Nat.le_refl _) _).drew⟩
    have HE : Hid (W.heap.size = x + 1) := HA
    go_region_with (fail)
    all_goals
      go_wp2_with fail
      go_meet
      case rel => exact ⟨by rw [HE.out], rfl, HN.out⟩
  case rest =>
    obtain ⟨rfl, rfl, HC⟩ := hcut
    have b0 := cell_blk HC.out.1 0 _ rfl
    have b1 := cell_blk HC.out.1 1 _ rfl
    have a1' := kept_cell (HC.out.2.mono (by rw [hWs]; exact Nat.le_refl _) : Below W.heap.size W wc) a1
    have a2' := kept_cell (HC.out.2.mono (by rw [hWs]; exact Nat.le_refl _) : Below W.heap.size W wc) a2
    have HB2 : Hid (Below w.heap.size w wc) := by
      have := HBA.out.trans (HC.out.2.mono (by omega))
      rw [HX.out] at this
      exact this
    clear a1 a2 k1 k2 c1 HC
    cases hub : upB ra 7 with
    | false =>
      rw [hub] at HBR HF
      go_wp2_with fail
      refine (HBR.out _).mono ?_
      rintro e w1 ⟨rfl, rfl⟩
      go_wp2_with fail
      go_ret
      exact ⟨ret_int (by rw [HF.out]; rfl), HB2.out⟩
    | true =>
      rw [hub] at HBR HF
      cases kn with
      | false =>
        go_wp2_with fail
        refine (HBR.out _).mono ?_
        rintro e w1 ⟨rfl, rfl⟩
        go_wp2_with fail
        go_ret
        exact ⟨ret_int (by rw [HF.out]; rfl), HB2.out⟩
      | true =>
        by_cases h3 : rb = lf
        · have h3' : (rb != lf) = false := by simp [h3]
          have HE := hid h3
          clear h3
          by_cases h4 : bu = up
          · have h4' : (bu == up) = true := by simp [h4]
            have HE4 := hid h4
            clear h4
            go_wp2_with fail
            refine (HBR.out _).mono ?_
            rintro e w1 ⟨rfl, rfl⟩
            go_wp2_with fail
            go_ret
            exact ⟨ret_int (by rw [HF.out]; simp [HE.out, HE4.out]), HB2.out⟩
          · have h4' : (bu == up) = false := by simp [h4]
            have HE4 := hid h4
            clear h4
            go_wp2_with fail
            refine (HBR.out _).mono ?_
            rintro e w1 ⟨rfl, rfl⟩
            go_wp2_with fail
            go_ret
            exact ⟨ret_int (by rw [HF.out]; simp [HE.out, HE4.out]), HB2.out⟩
        · have h3' : (rb != lf) = true := by simp [h3]
          have HE := hid h3
          clear h3
          go_wp2_with fail
          refine (HBR.out _).mono ?_
          rintro e w1 ⟨rfl, rfl⟩
          go_wp2_with fail
          go_ret
          exact ⟨ret_int (by rw [HF.out]; simp [HE.out]), HB2.out⟩
end Go.Proofs.YtcffomhcmilcpaaGreat
