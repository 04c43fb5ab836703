/- What goes through a list: those, areAll; a copy. -/
import Derived.Test.YtcffomhcmilcpaaGreatK0
import Derived.Lib.SliceRun
import Derived.Laws.AppendOwnNone
namespace Go.Proofs.YtcffomhcmilcpaaGreat
open Go.RowKit Go.Maps
set_option linter.unusedSimpArgs false
set_option linter.unusedVariables false
set_option maxRecDepth 100000

theorem info3 : ∃ i, Tryz.prog.info? 3 = some i ∧ i.zero = some (.int .i64 0) ∧ i.size = 1 ∧ i.bytes = 8 := ⟨_, rfl, rfl, rfl, rfl⟩
def vals (l : List Int) : List Value := l.map fun x => .int .i64 x
theorem vals_one (l : List Int) : ∀ u ∈ vals l, u.oneCell' = true := by
  intro u hu
  obtain ⟨x, _, rfl⟩ := List.mem_map.1 hu
  rfl
theorem vals_length (l : List Int) : (vals l).length = l.length := by simp [vals]
theorem add_at (b o i : Nat) : (⟨b, o, none⟩ : Addr).add i = ⟨b, o + i, none⟩ := by unfold Addr.add; split <;> simp_all
theorem IL.of {w : World} {B : Nat} {v : Value} {l : List Int} (h : w.ownsRow B 3 1 v l.length (vals l)) (hok : ∀ x ∈ l, I64 x) (hf : l.length ≤ 17592186044415) : IL w v l := by
  refine ⟨?_, hok, hf⟩
  have hc := fun g (hg : v.ownBlock = some g) => World.ownsRow.cells h hg
  have hlt := World.ownsRow.lt h
  obtain ⟨h1, h2⟩ := h
  rcases h2 with ⟨rfl, h0⟩ | ⟨g, cap, cur, rfl, hB, hg, hnc, hcm, hcs, htk⟩
  · exact ⟨none, 0, by rw [h0], by omega, Nat.zero_le _, fun _ => rfl, fun hne => absurd (List.eq_nil_of_length_eq_zero h0) hne⟩
  · refine ⟨some ⟨g, 0, none⟩, cap, rfl, hnc, hcm, (fun h => by cases h), fun hne => ⟨g, 0, rfl, (hlt g rfl).2, fun i hi => ?_⟩⟩
    have := hc g rfl i (.int .i64 l[i]) (by simp [vals, hi])
    rw [add_at] at this
    exact this
theorem in_own {w : World} {B n : Nat} {v : Value} {l : List Int} {xs : List Value} (h : w.ownsRow B 3 1 v n xs) : In (fun b => B ≤ b) v l := fun _ b off n c e => (World.ownsRow.lt h b (by
  rcases h.2 with ⟨e1, _⟩ | ⟨g, cap, cur, e1, _⟩
  · rw [e1] at e; cases e
  · rw [e1] at e; cases e; rw [e1]; rfl)).1
theorem IL.cells {w : World} {v : Value} {l : List Int} (h : IL w v l) {b off len cap : Nat} (hv : v = .slice (some ⟨b, off, none⟩) len cap) (hne : l ≠ []) : ∀ j u, (vals l)[j]? = some u → w.cell? ((⟨b, off, none⟩ : Addr).add j) = some u := by
  intro j u hu
  obtain ⟨⟨a, c, e, _, _, _, h4⟩, _⟩ := h
  obtain ⟨b', off', e1, e2, e3⟩ := h4 hne
  subst e1
  subst hv
  cases e
  obtain ⟨hj, e4⟩ := List.getElem?_eq_some_iff.1 hu
  rw [vals_length] at hj
  rw [add_at, e3 j hj, ← e4]
  simp [vals]


theorem inL_snoc (l : List Int) (m : List Int) (k : Nat) (h : k < l.length) : inL (l.take (k + 1)) m = inL (l.take k) m ++ (if hasB m l[k] = true then [l[k]] else []) := by
  rw [List.take_succ_eq_append_getElem h]
  unfold inL
  rw [List.filter_append]
  simp [List.filter_cons]
set_option maxHeartbeats 3200000 in
theorem those39_any {w : World} {v u : Value} {l m : List Int} (h : IL w v l) (hm : IL w u m) : Calls Tryz.prog 181 #[v, .func (.func 138) #[] #[], u] w fun e w' => ∃ v', e = .returned v' ∧ IL w' v' (inL l m) ∧ In (fun b => w.heap.size ≤ b) v' (inL l m) ∧ Below w.heap.size w w' := by
  have HM := hid hm
  obtain ⟨i0, hi0, hz0, hz1, hz2⟩ := info3
  obtain ⟨⟨a, cap, rfl, hcap, hcm, hnn, hat⟩, hok, hfew⟩ := h
  obtain ⟨⟨ua, ucap, rfl, _⟩, _⟩ := hm
  have HA := hid hat
  have HOK := hid hok
  have hlen : l.length ≤ maxLen := by omega
  have hlen2 : l.length ≤ 9223372036854775807 := by unfold maxLen at hlen; omega
  clear hat hok hnn hcap hcm
  go_enter Tryz.func181, Tryz.ntmps181
  go_wp2_with fail
  go_loopg [7, 12] l.length (fun kx s7 s12 wr => ∃ k : Nat, k ≤ l.length ∧ l.length - k ≤ kx ∧ s12 = .int .i64 (k : Int) ∧ Hid (wr.ownsRow w.heap.size 3 1 s7 (inL (l.take k) m).length (vals (inL (l.take k) m)) ∧ Below w.heap.size w wr) ∧ (∃ a n c, s7 = .slice a n c))
  case atStart => exact ⟨0, Nat.zero_le _, by omega, rfl, ⟨World.ownsRow_nil _ _ _ _, Below.refl _ _⟩, ⟨_, _, _, rfl⟩⟩
  case round =>
    obtain ⟨k, hk, hkx, rfl, HR, ⟨a1, n1, c1, rfl⟩⟩ := hrel
    by_cases hlt : k < l.length
    · obtain ⟨b, off, rfl, hb, hc⟩ := HA.out (by intro e; rw [e] at hlt; simp at hlt)
      have hck := kept_cell HR.out.2 (hc k hlt)
      have hok := HOK.out l[k] (by simp)
      have HS := hid (inL_snoc l m k hlt)
      have H39 := hid (has_any (HM.out.under HR.out.2) l[k] hok)
      have hlt' : (k : Int) < (l.length : Int) := by omega
      have hn1 : (inL (l.take k) m).length ≤ k := by have := len_inL (l.take k) m; rw [List.length_take] at this; omega
      generalize l[k] = y at *
      clear hc
      cases hB : hasB m y with
      | true =>
        rw [hB] at H39 HS
        rw [if_pos rfl] at HS
        go_wp2_with fail
        refine H39.out.mono ?_
        rintro e w1 ⟨rfl, rfl⟩
        have HX : Hid ((wr.alloc (.cells #[.int .i64 y] 3)).ownsRow w.heap.size 3 1 (.slice a1 n1 c1) (inL (l.take k) m).length (vals (inL (l.take k) m))) := HR.out.1.alloc _
        have HN1 : Hid (∀ j u, ([.int .i64 y] : List Value)[j]? = some u → (wr.alloc (.cells #[.int .i64 y] 3)).cell? ((⟨wr.heap.size, 0, none⟩ : Addr).add j) = some u) := fun j u hu => by
          cases j with
          | zero => simp at hu; subst hu; rw [add_at]; exact cell_blk (heap_alloc_new _ _) 0 _ rfl
          | succ j => simp at hu
        have HO1 : Hid (∀ u ∈ ([.int .i64 y] : List Value), u.oneCell' = true) := fun u hu => by simp at hu; subst hu; rfl
        have hbs := HR.out.2.size
        go_wp2_with (at_builtin; go_loud (refine wpList_append_own_at _ rfl _ _ 132 rfl w.heap.size 3 i0 _ 1 8 Tryz.underlying132 hi0 hz0 hz1 hz2 rfl (by decide) _ (inL (l.take k) m).length _ rfl HX.out ⟨wr.heap.size, 0, none⟩ 1 1 [.int .i64 y] rfl rfl HN1.out HO1.out (by omega) (by unfold maxLen at hlen; omega) (by simp; omega) ?_); intro v2 w2 hown2 hg2 _ hat2)
        have hsh : ∃ a n c, v2 = .slice a n c := by
          rcases hown2.2 with ⟨e, _⟩ | ⟨g, cp, cur, e, _⟩
          · exact ⟨_, _, _, e⟩
          · exact ⟨_, _, _, e⟩
        obtain ⟨a2, n2, c2, rfl⟩ := hsh
        have HB2 : Hid (Below w.heap.size w w2) := (HR.out.2.alloc hbs _).grown hg2 (by have := (HR.out.2.alloc hbs (.cells #[.int .i64 y] 3)).size; exact this) (fun j hj => (World.ownsRow.lt HX.out j hj).1)
        have HW2 := hid hown2
        clear hown2 hg2 hat2
        go_wp2_with fail
        go_roundg (l.length - (k + 1))
        case measure => omega
        case rel => exact ⟨k + 1, by omega, Nat.le_refl _, by go_num, ⟨by rw [HS.out]; simp only [List.length_append, List.length_cons, List.length_nil, Nat.zero_add, vals, List.map_append, List.map_cons, List.map_nil]; exact HW2.out, HB2.out⟩, ⟨_, _, _, rfl⟩⟩
      | false =>
        rw [hB] at H39 HS
        rw [if_neg (by simp), List.append_nil] at HS
        go_wp2_with fail
        refine H39.out.mono ?_
        rintro e w1 ⟨rfl, rfl⟩
        go_wp2_with fail
        go_roundg (l.length - (k + 1))
        case measure => omega
        case rel => exact ⟨k + 1, by omega, Nat.le_refl _, by go_num, (by rw [HS.out]; exact HR.out), ⟨_, _, _, rfl⟩⟩
    · have hlt' : ¬ (k : Int) < (l.length : Int) := by omega
      go_wp2_with fail
      go_ret
      have hr := HR.out
      rw [List.take_of_length_le (by omega)] at hr
      exact ⟨_, rfl, IL.of hr.1 (fun x hx => HOK.out x (by unfold inL at hx; exact (List.mem_filter.1 hx).1)) (by have := len_inL l m; omega), in_own hr.1, hr.2⟩

theorem all39_snoc (l m : List Int) (k : Nat) (h : k < l.length) : (l.take (k + 1)).all (hasB m) = ((l.take k).all (hasB m) && hasB m l[k]) := by
  rw [List.take_succ_eq_append_getElem h, List.all_append]
  simp only [List.all_cons, List.all_nil, Bool.and_true]
theorem all39_not (l m : List Int) (k : Nat) (h : k < l.length) (hf : hasB m l[k] = false) : l.all (hasB m) = false := by
  rw [List.all_eq_false]
  exact ⟨l[k], by simp, by simp [hf]⟩
set_option maxHeartbeats 1600000 in
theorem areAll39_any {w : World} {v u : Value} {l m : List Int} (h : IL w v l) (hm : IL w u m) : Calls Tryz.prog 169 #[v, .func (.func 138) #[] #[], u] w fun e w' => e = .returned (.bool (l.all (hasB m))) ∧ w = w' := by
  have HM := hid hm
  obtain ⟨⟨a, cap, rfl, hcap, hcm, hnn, hat⟩, hok, hfew⟩ := h
  obtain ⟨⟨ua, ucap, rfl, _⟩, _⟩ := hm
  have HA := hid hat
  have HOK := hid hok
  have hlen2 : l.length ≤ 9223372036854775807 := by unfold maxLen at hcm; omega
  clear hat hok hnn hcap hcm
  go_enter Tryz.func169, Tryz.ntmps169
  go_wp2_with fail
  go_loopg [11] l.length (fun kx s11 wr => ∃ k : Nat, k ≤ l.length ∧ l.length - k ≤ kx ∧ s11 = .int .i64 (k : Int) ∧ Hid ((l.take k).all (hasB m) = true) ∧ wr = w)
  case atStart => exact ⟨0, Nat.zero_le _, by omega, rfl, by show _ = _; simp, rfl⟩
  case round =>
    obtain ⟨k, hk, hkx, rfl, HR, rfl⟩ := hrel
    by_cases hlt : k < l.length
    · obtain ⟨b, off, rfl, hb, hc⟩ := HA.out (by intro e; rw [e] at hlt; simp at hlt)
      have hck := hc k hlt
      have hok := HOK.out l[k] (by simp)
      have HS := hid (all39_snoc l m k hlt)
      have HN := hid (all39_not l m k hlt)
      have H39 := hid (has_any HM.out l[k] hok)
      have hlt' : (k : Int) < (l.length : Int) := by omega
      generalize l[k] = y at *
      clear hc
      cases hB : hasB m y with
      | true =>
        rw [hB] at H39 HS
        go_wp2_with fail
        refine H39.out.mono ?_
        rintro e w1 ⟨rfl, rfl⟩
        go_wp2_with fail
        go_roundg (l.length - (k + 1))
        case measure => omega
        case rel => exact ⟨k + 1, by omega, Nat.le_refl _, by go_num, (by show _ = _; rw [HS.out, HR.out]; rfl), rfl⟩
      | false =>
        rw [hB] at H39
        have HN2 := hid (HN.out hB)
        clear hB
        go_wp2_with fail
        refine H39.out.mono ?_
        rintro e w1 ⟨rfl, rfl⟩
        go_wp2_with fail
        go_ret
        exact ⟨by rw [HN2.out]; rfl, rfl⟩
    · have hlt' : ¬ (k : Int) < (l.length : Int) := by omega
      go_wp2_with fail
      go_ret
      have hr := HR.out
      rw [List.take_of_length_le (by omega)] at hr
      exact ⟨by rw [hr]; rfl, rfl⟩

theorem outL_snoc (l : List Int) (m : List Int) (k : Nat) (h : k < l.length) : outL (l.take (k + 1)) m = outL (l.take k) m ++ (if lackB m l[k] = true then [l[k]] else []) := by
  rw [List.take_succ_eq_append_getElem h]
  unfold outL
  rw [List.filter_append]
  simp [List.filter_cons]
set_option maxHeartbeats 3200000 in
theorem those50_any {w : World} {v u : Value} {l m : List Int} (h : IL w v l) (hm : IL w u m) : Calls Tryz.prog 181 #[v, .func (.func 158) #[] #[], u] w fun e w' => ∃ v', e = .returned v' ∧ IL w' v' (outL l m) ∧ In (fun b => w.heap.size ≤ b) v' (outL l m) ∧ Below w.heap.size w w' := by
  have HM := hid hm
  obtain ⟨i0, hi0, hz0, hz1, hz2⟩ := info3
  obtain ⟨⟨a, cap, rfl, hcap, hcm, hnn, hat⟩, hok, hfew⟩ := h
  obtain ⟨⟨ua, ucap, rfl, _⟩, _⟩ := hm
  have HA := hid hat
  have HOK := hid hok
  have hlen : l.length ≤ maxLen := by omega
  have hlen2 : l.length ≤ 9223372036854775807 := by unfold maxLen at hlen; omega
  clear hat hok hnn hcap hcm
  go_enter Tryz.func181, Tryz.ntmps181
  go_wp2_with fail
  go_loopg [7, 12] l.length (fun kx s7 s12 wr => ∃ k : Nat, k ≤ l.length ∧ l.length - k ≤ kx ∧ s12 = .int .i64 (k : Int) ∧ Hid (wr.ownsRow w.heap.size 3 1 s7 (outL (l.take k) m).length (vals (outL (l.take k) m)) ∧ Below w.heap.size w wr) ∧ (∃ a n c, s7 = .slice a n c))
  case atStart => exact ⟨0, Nat.zero_le _, by omega, rfl, ⟨World.ownsRow_nil _ _ _ _, Below.refl _ _⟩, ⟨_, _, _, rfl⟩⟩
  case round =>
    obtain ⟨k, hk, hkx, rfl, HR, ⟨a1, n1, c1, rfl⟩⟩ := hrel
    by_cases hlt : k < l.length
    · obtain ⟨b, off, rfl, hb, hc⟩ := HA.out (by intro e; rw [e] at hlt; simp at hlt)
      have hck := kept_cell HR.out.2 (hc k hlt)
      have hok := HOK.out l[k] (by simp)
      have HS := hid (outL_snoc l m k hlt)
      have H50 := hid (lacks_any (HM.out.under HR.out.2) l[k] hok)
      have hlt' : (k : Int) < (l.length : Int) := by omega
      have hn1 : (outL (l.take k) m).length ≤ k := by have := len_outL (l.take k) m; rw [List.length_take] at this; omega
      generalize l[k] = y at *
      clear hc
      cases hB : lackB m y with
      | true =>
        rw [hB] at H50 HS
        rw [if_pos rfl] at HS
        go_wp2_with fail
        refine H50.out.mono ?_
        rintro e w1 ⟨rfl, rfl⟩
        have HX : Hid ((wr.alloc (.cells #[.int .i64 y] 3)).ownsRow w.heap.size 3 1 (.slice a1 n1 c1) (outL (l.take k) m).length (vals (outL (l.take k) m))) := HR.out.1.alloc _
        have HN1 : Hid (∀ j u, ([.int .i64 y] : List Value)[j]? = some u → (wr.alloc (.cells #[.int .i64 y] 3)).cell? ((⟨wr.heap.size, 0, none⟩ : Addr).add j) = some u) := fun j u hu => by
          cases j with
          | zero => simp at hu; subst hu; rw [add_at]; exact cell_blk (heap_alloc_new _ _) 0 _ rfl
          | succ j => simp at hu
        have HO1 : Hid (∀ u ∈ ([.int .i64 y] : List Value), u.oneCell' = true) := fun u hu => by simp at hu; subst hu; rfl
        have hbs := HR.out.2.size
        go_wp2_with (at_builtin; go_loud (refine wpList_append_own_at _ rfl _ _ 132 rfl w.heap.size 3 i0 _ 1 8 Tryz.underlying132 hi0 hz0 hz1 hz2 rfl (by decide) _ (outL (l.take k) m).length _ rfl HX.out ⟨wr.heap.size, 0, none⟩ 1 1 [.int .i64 y] rfl rfl HN1.out HO1.out (by omega) (by unfold maxLen at hlen; omega) (by simp; omega) ?_); intro v2 w2 hown2 hg2 _ hat2)
        have hsh : ∃ a n c, v2 = .slice a n c := by
          rcases hown2.2 with ⟨e, _⟩ | ⟨g, cp, cur, e, _⟩
          · exact ⟨_, _, _, e⟩
          · exact ⟨_, _, _, e⟩
        obtain ⟨a2, n2, c2, rfl⟩ := hsh
        have HB2 : Hid (Below w.heap.size w w2) := (HR.out.2.alloc hbs _).grown hg2 (by have := (HR.out.2.alloc hbs (.cells #[.int .i64 y] 3)).size; exact this) (fun j hj => (World.ownsRow.lt HX.out j hj).1)
        have HW2 := hid hown2
        clear hown2 hg2 hat2
        go_wp2_with fail
        go_roundg (l.length - (k + 1))
        case measure => omega
        case rel => exact ⟨k + 1, by omega, Nat.le_refl _, by go_num, ⟨by rw [HS.out]; simp only [List.length_append, List.length_cons, List.length_nil, Nat.zero_add, vals, List.map_append, List.map_cons, List.map_nil]; exact HW2.out, HB2.out⟩, ⟨_, _, _, rfl⟩⟩
      | false =>
        rw [hB] at H50 HS
        rw [if_neg (by simp), List.append_nil] at HS
        go_wp2_with fail
        refine H50.out.mono ?_
        rintro e w1 ⟨rfl, rfl⟩
        go_wp2_with fail
        go_roundg (l.length - (k + 1))
        case measure => omega
        case rel => exact ⟨k + 1, by omega, Nat.le_refl _, by go_num, (by rw [HS.out]; exact HR.out), ⟨_, _, _, rfl⟩⟩
    · have hlt' : ¬ (k : Int) < (l.length : Int) := by omega
      go_wp2_with fail
      go_ret
      have hr := HR.out
      rw [List.take_of_length_le (by omega)] at hr
      exact ⟨_, rfl, IL.of hr.1 (fun x hx => HOK.out x (by unfold outL at hx; exact (List.mem_filter.1 hx).1)) (by have := len_outL l m; omega), in_own hr.1, hr.2⟩

theorem all50_snoc (l m : List Int) (k : Nat) (h : k < l.length) : (l.take (k + 1)).all (lackB m) = ((l.take k).all (lackB m) && lackB m l[k]) := by
  rw [List.take_succ_eq_append_getElem h, List.all_append]
  simp only [List.all_cons, List.all_nil, Bool.and_true]
theorem all50_not (l m : List Int) (k : Nat) (h : k < l.length) (hf : lackB m l[k] = false) : l.all (lackB m) = false := by
  rw [List.all_eq_false]
  exact ⟨l[k], by simp, by simp [hf]⟩
set_option maxHeartbeats 1600000 in
theorem areAll50_any {w : World} {v u : Value} {l m : List Int} (h : IL w v l) (hm : IL w u m) : Calls Tryz.prog 169 #[v, .func (.func 158) #[] #[], u] w fun e w' => e = .returned (.bool (l.all (lackB m))) ∧ w = w' := by
  have HM := hid hm
  obtain ⟨⟨a, cap, rfl, hcap, hcm, hnn, hat⟩, hok, hfew⟩ := h
  obtain ⟨⟨ua, ucap, rfl, _⟩, _⟩ := hm
  have HA := hid hat
  have HOK := hid hok
  have hlen2 : l.length ≤ 9223372036854775807 := by unfold maxLen at hcm; omega
  clear hat hok hnn hcap hcm
  go_enter Tryz.func169, Tryz.ntmps169
  go_wp2_with fail
  go_loopg [11] l.length (fun kx s11 wr => ∃ k : Nat, k ≤ l.length ∧ l.length - k ≤ kx ∧ s11 = .int .i64 (k : Int) ∧ Hid ((l.take k).all (lackB m) = true) ∧ wr = w)
  case atStart => exact ⟨0, Nat.zero_le _, by omega, rfl, by show _ = _; simp, rfl⟩
  case round =>
    obtain ⟨k, hk, hkx, rfl, HR, rfl⟩ := hrel
    by_cases hlt : k < l.length
    · obtain ⟨b, off, rfl, hb, hc⟩ := HA.out (by intro e; rw [e] at hlt; simp at hlt)
      have hck := hc k hlt
      have hok := HOK.out l[k] (by simp)
      have HS := hid (all50_snoc l m k hlt)
      have HN := hid (all50_not l m k hlt)
      have H50 := hid (lacks_any HM.out l[k] hok)
      have hlt' : (k : Int) < (l.length : Int) := by omega
      generalize l[k] = y at *
      clear hc
      cases hB : lackB m y with
      | true =>
        rw [hB] at H50 HS
        go_wp2_with fail
        refine H50.out.mono ?_
        rintro e w1 ⟨rfl, rfl⟩
        go_wp2_with fail
        go_roundg (l.length - (k + 1))
        case measure => omega
        case rel => exact ⟨k + 1, by omega, Nat.le_refl _, by go_num, (by show _ = _; rw [HS.out, HR.out]; rfl), rfl⟩
      | false =>
        rw [hB] at H50
        have HN2 := hid (HN.out hB)
        clear hB
        go_wp2_with fail
        refine H50.out.mono ?_
        rintro e w1 ⟨rfl, rfl⟩
        go_wp2_with fail
        go_ret
        exact ⟨by rw [HN2.out]; rfl, rfl⟩
    · have hlt' : ¬ (k : Int) < (l.length : Int) := by omega
      go_wp2_with fail
      go_ret
      have hr := HR.out
      rw [List.take_of_length_le (by omega)] at hr
      exact ⟨by rw [hr]; rfl, rfl⟩

set_option maxHeartbeats 1600000 in
theorem clone70_any {w : World} {v : Value} {l : List Int} (h : IL w v l) : Calls Tryz.prog 141 #[v] w fun e w' => ∃ v', e = .returned v' ∧ IL w' v' l ∧ In (fun b => w.heap.size ≤ b) v' l ∧ Below w.heap.size w w' := by
  obtain ⟨i0, hi0, hz0, hz1, hz2⟩ := info3
  have HI := hid h
  obtain ⟨⟨a, cap, rfl, hcap, hcm, hnn, hat⟩, hok, hfew⟩ := h
  have hlen : l.length ≤ maxLen := by omega
  have HNIL := hid (fun W : World => Lib.run_eql_slice_nil (P := Tryz.prog) W 132 3 a l.length cap 0 0 Tryz.underlying132)
  have hnil := fun W : World => HNIL.out W
  have HOK := hid hok
  cases a with
  | none =>
    have h0 := hnn rfl
    subst h0
    have hl : l = [] := List.eq_nil_of_length_eq_zero (by omega)
    subst hl
    have hnil2 : ∀ W : World, (binOp .eql 132 (.slice none 0 0) (.slice none 0 0)).run Tryz.prog W = .ok (.bool true) W := fun W => HNIL.out W
    clear hat hok hnn hcap hcm HNIL hnil
    go_enter Tryz.func141, Tryz.ntmps141
    go_wp2_with fail
    go_ret
    exact ⟨_, rfl, IL.nil _, In.nil _ _, Below.refl _ _⟩
  | some ad =>
    have HROW : Hid ((w.alloc (.cells #[] 3)).ownsRow w.heap.size 3 1 (.slice (some ⟨w.heap.size, 0, none⟩) 0 0) 0 []) := ⟨rfl, .inr ⟨w.heap.size, 0, #[], rfl, Nat.le_refl _, heap_alloc_new _ _, Nat.le_refl _, Nat.zero_le _, rfl, rfl⟩⟩
    have hb0 : Below w.heap.size w (w.alloc (.cells #[] 3)) := (Below.refl _ _).alloc (Nat.le_refl _) _
    have HB0 := hid hb0
    have HNW : Hid (∀ j u, (vals l)[j]? = some u → (w.alloc (.cells #[] 3)).cell? (ad.add j) = some u) := by
      by_cases hne : l = []
      · subst hne; intro j u hu; simp [vals] at hu
      · obtain ⟨b, off, e1, _⟩ := hat hne
        cases e1
        exact (HI.out.under hb0).cells rfl hne
    have HON := hid (vals_one l)
    have HLn : Hid ((vals l).length = l.length * 1) := by show _ = _; rw [vals_length]; omega
    clear hat hok hnn hcap hcm HNIL hb0
    go_enter Tryz.func141, Tryz.ntmps141
    go_wp2_with (at_builtin; refine wpList_append_own_at _ rfl _ _ 132 rfl w.heap.size 3 i0 _ 1 8 Tryz.underlying132 hi0 hz0 hz1 hz2 rfl (by decide) _ 0 [] rfl HROW.out ad l.length cap (vals l) rfl HLn.out HNW.out HON.out (by omega) (by unfold maxLen at hlen; omega) (by simp) ?_; intro v' w2 hown2 hg2 _ hat)
    go_ret
    refine ⟨v', rfl, ?_, in_own hown2, HB0.out.grown hg2 HB0.out.size (fun j hj => by cases hj; exact Nat.le_refl _)⟩
    rw [Nat.zero_add, List.nil_append] at hown2
    exact IL.of hown2 HOK.out hfew
set_option maxHeartbeats 400000 in
theorem copied_any {w : World} {v : Value} {l : List Int} (h : IL w v l) : Calls Tryz.prog 108 #[v] w fun e w' => ∃ v', e = .returned v' ∧ IL w' v' l ∧ In (fun b => w.heap.size ≤ b) v' l ∧ Below w.heap.size w w' := by
  have HC := hid (clone70_any h)
  obtain ⟨⟨a, cap, rfl, _⟩, _⟩ := h
  go_enter Tryz.func108, Tryz.ntmps108
  go_wp2_with fail
  refine HC.out.mono ?_
  rintro e w1 ⟨v', rfl, h1, h3, h2⟩
  have hsh : ∃ a n c, v' = .slice a n c := by obtain ⟨⟨a, cap, e, _⟩, _⟩ := h1; exact ⟨_, _, _, e⟩
  obtain ⟨a2, n2, c2, rfl⟩ := hsh
  have H1 := hid h1
  have H3 := hid h3
  clear h1 h3
  go_wp2_with fail
  go_ret
  exact ⟨_, rfl, H1.out, H3.out, h2⟩
end Go.Proofs.YtcffomhcmilcpaaGreat

/- Whether a list is right. -/
namespace Go.Proofs.YtcffomhcmilcpaaGreat
open Go.RowKit Go.Maps
set_option linter.unusedSimpArgs false
set_option linter.unusedVariables false
set_option maxRecDepth 100000

theorem set_box {w : World} {q j : Nat} {cs : Array Value} {T : TypeId} {v : Value} (h : w.heap[q]? = some (.cells cs T)) : (w.setCell ⟨q, j, none⟩ v).heap[q]? = some (.cells (cs.setIfInBounds j v) T) := by
  exact heap_setCell_same w q j cs T v h
theorem frz_blk {w : World} {q : Nat} {cs : Array Value} {T : TypeId} (h : w.heap[q]? = some (.cells cs T)) (j : Nat) : w.frozen? ⟨q, j, none⟩ = false := by
  simp [World.frozen?, h]
def Seen (w : World) (g : Nat) (l : List Int) : Prop := ∃ cs : Array Value, w.heap[g]? = some (.cells cs 186) ∧ cs.size = 8 ∧ ∀ j : Nat, j < 8 → cs[j]? = some (.bool (decide ((j : Int) ∈ l)))
theorem Seen.cell {w : World} {g : Nat} {l : List Int} (h : Seen w g l) (j : Nat) (hj : j < 8) : w.cell? ⟨g, j, none⟩ = some (.bool (decide ((j : Int) ∈ l))) := by
  obtain ⟨cs, h1, h2, h3⟩ := h
  exact cell_blk h1 j _ (h3 j hj)
theorem Seen.frz {w : World} {g : Nat} {l : List Int} (h : Seen w g l) (j : Nat) : w.frozen? ⟨g, j, none⟩ = false := by
  obtain ⟨cs, h1, h2, h3⟩ := h
  exact frz_blk h1 j
theorem Seen.put {w : World} {g : Nat} {l : List Int} (h : Seen w g l) (n : Nat) (hn : n < 8) : Seen (w.setCell ⟨g, n, none⟩ (.bool true)) g (l ++ [(n : Int)]) := by
  obtain ⟨cs, h1, h2, h3⟩ := h
  refine ⟨_, set_box h1, by simp [h2], fun j hj => ?_⟩
  rw [Array.getElem?_setIfInBounds]
  by_cases e : n = j
  · subst e; simp [h2, hj]
  · rw [if_neg e, h3 j hj]
    have : ¬ ((j : Int) = (n : Int)) := by omega
    simp [this]
theorem ids_not {l : List Int} {x : Int} {k : Nat} (hk : l[k]? = some x) (h : ¬ (1 ≤ x ∧ x ≤ 7)) : idsB l = false := by
  rw [Bool.eq_false_iff]
  intro e
  exact h ((idsB_iff.1 e).2 x (List.mem_of_getElem? hk))
theorem ids_twice {l : List Int} {x : Int} {k : Nat} (hk : l[k]? = some x) (h : x ∈ l.take k) : idsB l = false := by
  rw [Bool.eq_false_iff]
  intro e
  have hn := (idsB_iff.1 e).1
  have hlt := (List.getElem?_eq_some_iff.1 hk).1
  have e1 : l = l.take k ++ l.drop k := (List.take_append_drop k l).symm
  rw [e1] at hn
  have := (List.nodup_append.1 hn).2.2 x h x (by
    rw [List.drop_eq_getElem_cons hlt, (List.getElem?_eq_some_iff.1 hk).2]; simp)
  exact this rfl
theorem ids_snoc {l : List Int} {x : Int} (h : idsB l = true) (h1 : 1 ≤ x ∧ x ≤ 7) (h2 : x ∉ l) : idsB (l ++ [x]) = true := by
  rw [idsB_iff] at *
  refine ⟨List.nodup_append.2 ⟨h.1, by simp, fun a ha b hb => by simp at hb; subst hb; intro e; subst e; exact h2 ha⟩, fun y hy => ?_⟩
  rcases List.mem_append.1 hy with hy | hy
  · exact h.2 y hy
  · simp at hy; subst hy; exact h1

set_option maxHeartbeats 1600000 in
theorem areRight_any {w : World} {v : Value} {l : List Int} (h : IL w v l) : Calls Tryz.prog 168 #[v] w fun e w' => e = .returned (.bool (idsB l)) ∧ Below w.heap.size w w' := by
  obtain ⟨⟨a, cap, rfl, hcap, hcm, hnn, hat⟩, hok, hfew⟩ := h
  have HA := hid hat
  have HOK := hid hok
  have hlen : l.length ≤ 9223372036854775807 := by omega
  clear hat hok hnn hcap hcm
  go_enter Tryz.func168, Tryz.ntmps168
  go_wp2_with fail
  have hz0 : w.heap.size < (w.alloc (.cells #[.bool false, .bool false, .bool false, .bool false, .bool false, .bool false, .bool false, .bool false] 186)).heap.size := by simp
  have HS0 : Hid (Seen (w.alloc (.cells #[.bool false, .bool false, .bool false, .bool false, .bool false, .bool false, .bool false, .bool false] 186)) w.heap.size []) := ⟨_, heap_alloc_new w _, rfl, fun j hj => by
    match j, hj with
    | 0, _ => rfl
    | 1, _ => rfl
    | 2, _ => rfl
    | 3, _ => rfl
    | 4, _ => rfl
    | 5, _ => rfl
    | 6, _ => rfl
    | 7, _ => rfl⟩
  have HB0 : Hid (Below w.heap.size w (w.alloc (.cells #[.bool false, .bool false, .bool false, .bool false, .bool false, .bool false, .bool false, .bool false] 186))) := (Below.refl _ _).alloc (Nat.le_refl _) _
  generalize w.alloc (.cells #[.bool false, .bool false, .bool false, .bool false, .bool false, .bool false, .bool false, .bool false] 186) = W at *
  go_loopg [8] l.length (fun kx s8 wr => ∃ k : Nat, k ≤ l.length ∧ l.length - k ≤ kx ∧ s8 = .int .i64 (k : Int) ∧ Hid (Seen wr w.heap.size (l.take k) ∧ Below w.heap.size w wr ∧ idsB (l.take k) = true))
  case atStart => exact ⟨0, Nat.zero_le _, by omega, rfl, by rw [List.take_zero]; exact HS0.out, HB0.out, rfl⟩
  case round =>
    obtain ⟨k, hk, hkx, rfl, HR⟩ := hrel
    by_cases hlt : k < l.length
    · obtain ⟨b, off, rfl, hb, hc⟩ := HA.out (by intro e; rw [e] at hlt; simp at hlt)
      have hck := kept_cell HR.out.2.1 (hc k hlt)
      have hok := HOK.out l[k] (by simp)
      have HX : Hid (l[k]? = some l[k]) := List.getElem?_eq_getElem hlt
      have HT : Hid (l.take (k + 1) = l.take k ++ [l[k]]) := List.take_succ_eq_append_getElem hlt
      have H58 := hid (fun W' => isBroker_any l[k] W' hok)
      have hlt' : (k : Int) < (l.length : Int) := by omega
      generalize l[k] = y at *
      clear hc
      by_cases hy : 1 ≤ y ∧ y ≤ 7
      · obtain ⟨n, rfl⟩ : ∃ n : Nat, y = (n : Int) := ⟨y.toNat, by omega⟩
        have hn8 : n < 8 := by omega
        have hn8' : (n : Int) < 8 := by omega
        have hn0 : (0 : Int) ≤ (n : Int) := by omega
        have HU : Hid (upB (n : Int) 7 = true) := upB_iff.2 hy
        have hcs := HR.out.1.cell n hn8
        have hfz := HR.out.1.frz n
        have HP := hid (HR.out.1.put n hn8)
        have HY := hid hy
        rw [HU.out] at H58
        by_cases hin : (n : Int) ∈ l.take k
        · have HF := hid (ids_twice HX.out hin)
          rw [decide_eq_true hin] at hcs
          clear hin hy
          go_wp2_with fail
          refine (H58.out _).mono ?_
          rintro e w1 ⟨rfl, rfl⟩
          go_wp2_with fail
          go_ret
          exact ⟨by rw [HF.out]; rfl, HR.out.2.1⟩
        · have HF := hid (ids_snoc HR.out.2.2 hy hin)
          rw [decide_eq_false hin] at hcs
          clear hin hy
          go_wp2_with fail
          refine (H58.out _).mono ?_
          rintro e w1 ⟨rfl, rfl⟩
          go_wp2_with fail
          go_roundg (l.length - (k + 1))
          case measure => omega
          case rel => exact ⟨k + 1, by omega, Nat.le_refl _, by go_num, by rw [HT.out]; exact HP.out, HR.out.2.1.setCell (Nat.le_refl _) _, by rw [HT.out]; exact HF.out⟩
      · have HF := hid (ids_not HX.out hy)
        have HU : Hid (upB y 7 = false) := by show _ = _; rw [Bool.eq_false_iff]; intro e; exact hy (upB_iff.1 e)
        rw [HU.out] at H58
        clear hy
        go_wp2_with fail
        refine (H58.out _).mono ?_
        rintro e w1 ⟨rfl, rfl⟩
        go_wp2_with fail
        go_ret
        exact ⟨by rw [HF.out]; rfl, HR.out.2.1⟩
    · have hlt' : ¬ (k : Int) < (l.length : Int) := by omega
      go_wp2_with fail
      go_ret
      have hr := HR.out
      rw [List.take_of_length_le (by omega)] at hr
      exact ⟨by rw [hr.2.2]; rfl, hr.2.1⟩
end Go.Proofs.YtcffomhcmilcpaaGreat

