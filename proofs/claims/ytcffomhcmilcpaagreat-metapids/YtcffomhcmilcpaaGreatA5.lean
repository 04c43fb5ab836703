/- Who is up. -/
import Derived.Test.YtcffomhcmilcpaaGreatA2
import Derived.Test.YtcffomhcmilcpaaGreatA1b
namespace Go.Proofs.YtcffomhcmilcpaaGreat
open Go.RowKit Go.Maps
set_option maxRecDepth 100000
set_option linter.unusedSimpArgs false
set_option linter.unusedVariables false

theorem field93a (l : Int) (u : Bool) (w : World) : (Instr.field 93 (.agg #[.int .i64 l, .bool u]) 0).run Tryz.prog w = .ok (.int .i64 l) w := by kernel_rfl
theorem field93b (l : Int) (u : Bool) (w : World) : (Instr.field 93 (.agg #[.int .i64 l, .bool u]) 1).run Tryz.prog w = .ok (.bool u) w := by kernel_rfl
theorem valB_at : ∀ (bs : BM), bs.Pairwise (fun p q => p.1 < q.1) → ∀ (k : Nat) (p : Int × Br), bs[k]? = some p → valB bs p.1 = p.2
  | [], _, k, p, h => by simp at h
  | y :: r, hp, 0, p, h => by
    simp at h
    subst h
    simp [valB, getB]
  | y :: r, hp, k + 1, p, h => by
    have h' := List.pairwise_cons.1 hp
    have hk : r[k]? = some p := by simpa using h
    have hm := List.mem_of_getElem? hk
    have hlt := h'.1 p hm
    have ih := valB_at r h'.2 k p hk
    have e : (y.1 == p.1) = false := by simp; omega
    unfold valB getB at ih ⊢
    simp only [List.find?_cons, e]
    exact ih
theorem upL_snoc (l : BM) (k : Nat) (h : k < l.length) : upL (l.take (k + 1)) = upL (l.take k) ++ (if l[k].2.up = true then [l[k].1] else []) := by
  rw [List.take_succ_eq_append_getElem h]
  unfold upL
  rw [List.filter_append, List.map_append]
  by_cases hu : l[k].2.up = true <;> simp [List.filter_cons, hu]
set_option maxHeartbeats 3200000 in
theorem up_any {w : World} {L : Nat → Prop} {q b : Nat} {vt vp ve : Value} {ps : List (Value × Pt)} {I : Im} (h : ImC w L q b vt vp ve ps I) : Calls Tryz.prog 24 #[.pointer (some ⟨q, 0, none⟩)] w fun e w' => ∃ v', e = .returned v' ∧ IL w' v' (upL I.brs) ∧ In (fun b => w.heap.size ≤ b) v' (upL I.brs) ∧ Below w.heap.size w w' := by
  have H63 := hid (ids_any h)
  have HI := hid h
  have hl7 := keys_few h.ok.keys (fun p hp => (h.ok.brs p hp).1)
  have HK := hid h.ok.keys
  have HBR := hid h.ok.brs
  obtain ⟨i0, hi0, hz0, hz1, hz2⟩ := info3
  have hfa := field93a
  have hfb := field93b
  clear h
  generalize hbs : I.brs = bs at *
  go_enter Tryz.func24, Tryz.ntmps24
  go_wp2_with fail
  refine H63.out.mono ?_
  rintro e w1 ⟨v, rfl, hil, hb1⟩
  obtain ⟨⟨a, cap, rfl, hcap, hcm, hnn, hat⟩, hok, hfew⟩ := hil
  have HA := hid hat
  have HB1 := hid hb1
  clear hat hok hnn hcap hcm hfew H63 hb1
  have hll : (bs.map (·.1)).length = bs.length := by simp
  rw [hll]
  go_wp2_with fail
  go_loopg [3, 9] bs.length (fun kx s3 s9 wr => ∃ k : Nat, k ≤ bs.length ∧ bs.length - k ≤ kx ∧ s9 = .int .i64 (k : Int) ∧ Hid (wr.ownsRow w1.heap.size 3 1 s3 (upL (bs.take k)).length (vals (upL (bs.take k))) ∧ Below w1.heap.size w1 wr) ∧ (∃ a n c, s3 = .slice a n c))
  case atStart => exact ⟨0, Nat.zero_le _, by omega, rfl, ⟨World.ownsRow_nil _ _ _ _, Below.refl _ _⟩, ⟨_, _, _, rfl⟩⟩
  case round =>
    obtain ⟨k, hk, hkx, rfl, HR, ⟨a1, n1, c1, rfl⟩⟩ := hrel
    by_cases hlt : k < bs.length
    · obtain ⟨g, off, rfl, hg, hc⟩ := HA.out (by intro e; have := congrArg List.length e; rw [List.length_map] at this; simp only [List.length_nil] at this; omega)
      have hck := kept_cell HR.out.2 (hc k (by simpa using hlt))
      simp only [List.getElem_map] at hck
      have hx : bs[k]? = some bs[k] := List.getElem?_eq_getElem hlt
      have hv := valB_at bs HK.out k _ hx
      have hbr := HBR.out bs[k] (by simp)
      have hlk := (HI.out.under (HB1.out.trans (HR.out.2.mono HB1.out.size))).look bs[k].1 (by unfold I64; omega)
      rw [hbs, hv] at hlk
      have c1q := (HI.out.under (HB1.out.trans (HR.out.2.mono HB1.out.size))).c1
      have HS := hid (upL_snoc bs k hlt)
      have hlt' : (k : Int) < (bs.length : Int) := by omega
      have hn1 : (upL (bs.take k)).length ≤ k := by have := upL_len (bs.take k); rw [List.length_take] at this; omega
      generalize bs[k] = z at *
      obtain ⟨y, lf, u⟩ := z
      simp only [Br.val] at *
      clear hc hx hv
      have hy1 := hbr.1.1
      have hy2 := hbr.1.2
      clear hbr
      cases u with
      | true =>
        rw [if_pos rfl] at HS
        have HX : Hid ((wr.alloc (.cells #[.int .i64 y] 3)).ownsRow w1.heap.size 3 1 (.slice a1 n1 c1) (upL (bs.take k)).length (vals (upL (bs.take k)))) := HR.out.1.alloc _
        have HN1 : Hid (∀ j u, ([.int .i64 y] : List Value)[j]? = some u → (wr.alloc (.cells #[.int .i64 y] 3)).cell? ((⟨wr.heap.size, 0, none⟩ : Addr).add j) = some u) := fun j u hu => by
          cases j with
          | zero => simp at hu; subst hu; rw [add_at]; exact cell_blk (heap_alloc_new _ _) 0 _ rfl
          | succ j => simp at hu
        have HO1 : Hid (∀ u ∈ ([.int .i64 y] : List Value), u.oneCell' = true) := fun u hu => by simp at hu; subst hu; rfl
        have hbs1 := HR.out.2.size
        go_wp2_with (at_builtin; go_loud (refine wpList_append_own_at _ rfl _ _ 23 rfl w1.heap.size 3 i0 _ 1 8 Tryz.underlying23 hi0 hz0 hz1 hz2 rfl (by decide) _ (upL (bs.take k)).length _ rfl HX.out ⟨wr.heap.size, 0, none⟩ 1 1 [.int .i64 y] rfl rfl HN1.out HO1.out (by unfold maxLen; omega) (by omega) (by simp; omega) ?_); intro v2 w2 hown2 hg2 _ hat2)
        have hsh : ∃ a n c, v2 = .slice a n c := by
          rcases hown2.2 with ⟨e, _⟩ | ⟨g, cp, cur, e, _⟩
          · exact ⟨_, _, _, e⟩
          · exact ⟨_, _, _, e⟩
        obtain ⟨a2, n2, c2, rfl⟩ := hsh
        have HB2 : Hid (Below w1.heap.size w1 w2) := (HR.out.2.alloc hbs1 _).grown hg2 (by have := (HR.out.2.alloc hbs1 (.cells #[.int .i64 y] 3)).size; exact this) (fun j hj => (World.ownsRow.lt HX.out j hj).1)
        have HW2 := hid hown2
        clear hown2 hg2 hat2
        go_wp2_with fail
        go_roundg (bs.length - (k + 1))
        case measure => omega
        case rel => exact ⟨k + 1, by omega, Nat.le_refl _, by go_num, ⟨by rw [HS.out]; simp only [List.length_append, List.length_cons, List.length_nil, Nat.zero_add, vals, List.map_append, List.map_cons, List.map_nil]; exact HW2.out, HB2.out⟩, ⟨_, _, _, rfl⟩⟩
      | false =>
        rw [if_neg (by simp), List.append_nil] at HS
        go_wp2_with fail
        go_roundg (bs.length - (k + 1))
        case measure => omega
        case rel => exact ⟨k + 1, by omega, Nat.le_refl _, by go_num, (by rw [HS.out]; exact HR.out), ⟨_, _, _, rfl⟩⟩
    · have hlt' : ¬ (k : Int) < (bs.length : Int) := by omega
      go_wp2_with fail
      go_ret
      have hr := HR.out
      rw [List.take_of_length_le (by omega)] at hr
      exact ⟨_, rfl, IL.of hr.1 (fun x hx => (by
        obtain ⟨p, hp, rfl⟩ := List.mem_map.1 hx
        have := (HBR.out p (List.mem_filter.1 hp).1).1
        unfold I64; omega)) (by have := upL_len bs; omega), (in_own hr.1).mono (fun k hk => Nat.le_trans HB1.out.size hk), HB1.out.trans (hr.2.mono HB1.out.size)⟩
end Go.Proofs.YtcffomhcmilcpaaGreat
