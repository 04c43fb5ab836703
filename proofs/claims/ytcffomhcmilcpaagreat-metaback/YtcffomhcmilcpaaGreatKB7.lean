/- The id behind those that the topics have. -/
import Derived.Test.YtcffomhcmilcpaaGreatKB6
namespace Go.Proofs.YtcffomhcmilcpaaGreat
open Go.RowKit Go.Maps
set_option maxRecDepth 100000
set_option linter.unusedSimpArgs false
set_option linter.unusedVariables false

def nxT (ts : List Tp) : Int := match ts.getLast? with | none => 1 | some t => t.first + t.count
set_option maxHeartbeats 3200000 in
theorem nextPart_any {w : World} {L : Nat → Prop} {q b : Nat} {vt vp ve : Value} {ps : List (Value × Pt)} {I : Im} (h : ImC w L q b vt vp ve ps I) : Calls Tryz.prog 94 #[.pointer (some ⟨q, 0, none⟩)] w fun e w' => e = .returned (.int .i64 (nxT I.tops)) ∧ Below w.heap.size w w' := by
  have hfew : I.tops.length ≤ 16 := h.ok.topsFew
  obtain ⟨oa, cap, rfl, _, _, _, hat⟩ := row_shape h.tops
  have HI := hid h
  have c2 := h.c2
  have hqlt := h.lt (.inl rfl)
  clear h
  by_cases h0 : I.tops.length = 0
  · have HN : Hid (nxT I.tops = 1) := by
      show _ = _
      rw [List.eq_nil_of_length_eq_zero h0]
      rfl
    have h0' : ((I.tops.length : Int) == 0) = true := by simp [h0]
    have h0'' : (I.tops.length == 0) = true := by simp [h0]
    rw [HN.out]
    go_enter Tryz.func94, Tryz.ntmps94
    go_wp2_with fail
    go_ret
    exact ⟨rfl, Below.refl _ _⟩
  · obtain ⟨n, hn⟩ : ∃ n, I.tops.length = n + 1 := ⟨I.tops.length - 1, by omega⟩
    obtain ⟨g, rfl⟩ := hat (by omega)
    have hlt : n < I.tops.length := by omega
    obtain ⟨k0, k1, k2⟩ := HI.out.top n _ (List.getElem?_eq_getElem hlt)
    have hnu := HI.out.ok.nums I.tops[n] (List.getElem_mem hlt)
    have HN : Hid (nxT I.tops = I.tops[n].first + I.tops[n].count) := by
      show _ = _
      unfold nxT
      have : I.tops.getLast? = some I.tops[n] := by
        rw [List.getLast?_eq_getElem?, List.getElem?_eq_getElem (by omega)]
        congr 2
        omega
      rw [this]
    rw [HN.out]
    have hgl : g < w.heap.size := World.block_lt_of_cell? w _ k0
    generalize I.tops[n] = T at *
    have h0' : ((I.tops.length : Int) == 0) = false := beq_eq_false_iff_ne.2 (by omega)
    have h0'' : (I.tops.length == 0) = false := beq_eq_false_iff_ne.2 (by omega)
    have hw1 : IntKind.i64.wrap ((I.tops.length : Int) - 1) = (n : Int) := by rw [show (I.tops.length : Int) - 1 = (n : Int) by omega]; exact IntWalk.i64_in _ ⟨by omega, by omega⟩
    have hn0 : (n : Int) < (I.tops.length : Int) := by omega
    have hn1 : (0 : Int) ≤ (n : Int) := by omega
    have hws : IntKind.i64.wrap (T.first + T.count) = T.first + T.count := IntWalk.i64_in _ ⟨by omega, by omega⟩
    generalize I.tops.length = N at *
    clear hn h0 hlt HI HN hat
    have ne1 : ¬ q = w.heap.size := by omega
    have ne2 : ¬ g = w.heap.size := by omega
    have ne3 : ¬ w.heap.size = q := by omega
    have ne4 : ¬ w.heap.size = g := by omega
    go_enter Tryz.func94, Tryz.ntmps94
    go_upto_region 3 with fail
    go_cut [3] from 10 to 21 (fun s3 V => ∃ y, s3 = .pointer (some ⟨y, 0, none⟩) ∧ Hid (V.heap[y]? = some (.cells #[.string T.name, .int .i64 T.first, .int .i64 T.count] 96)) ∧ Hid (Below w.heap.size w V))
    case first =>
      go_region_held3 (fun w' => w'.cell? ⟨q, 2, none⟩ = some (.slice (some ⟨g, 0, none⟩) N cap) ∧ w'.cell? ⟨g, n * 3, none⟩ = some (.string T.name) ∧ w'.cell? ⟨g, n * 3 + 1, none⟩ = some (.int .i64 T.first) ∧ w'.cell? ⟨g, n * 3 + 2, none⟩ = some (.int .i64 T.count)) (go_keep) (fail)
      all_goals
        go_wp2_with fail
        go_meet
        case rel => exact ⟨w.heap.size, rfl, hid (by first | exact heap_alloc_new _ _ | exact heap_alloc_new w.drew _), hid (by first | exact ((Below.refl _ _).alloc (Nat.le_refl _) _).drew | exact (Below.refl _ _).drew.alloc (Nat.le_refl _) _ | exact (Below.refl _ _).alloc (Nat.le_refl _) _)⟩
    case rest =>
      obtain ⟨y, rfl, HY, HBV⟩ := hcut
      have r1 := cell_blk HY.out 1 _ rfl
      have r2 := cell_blk HY.out 2 _ rfl
      go_wp2_with fail
      go_ret
      exact ⟨rfl, HBV.out⟩
end Go.Proofs.YtcffomhcmilcpaaGreat

