/- The document's lists. -/
import Derived.Test.YtfahepeemodcbaaM11
namespace Go.Proofs.Ytfahepeemodcbaa
open Go.RowKit Go.Maps
set_option linter.unusedSimpArgs false
set_option linter.unusedVariables false
set_option maxRecDepth 100000

set_option maxHeartbeats 1600000 in
theorem rhas_any {w : World} {v : Value} {l : List Int} (h : IL w v l) (x : Int) (hx : I64 x) : Calls Try.prog 42 #[v, .int .i64 x] w fun e w' => e = .returned (.bool (hasB l x)) ∧ w = w' := by
  obtain ⟨⟨a, cap, rfl, hcap, hcm, hnn, hat⟩, hok, hfew⟩ := h
  have HA := hid hat
  have HOK := hid hok
  have hlen : l.length ≤ 9223372036854775807 := by omega
  clear hat hok hnn hcap hcm
  go_enter Try.func42, Try.ntmps42
  go_wp2_with fail
  go_loopg [5] l.length (fun kx s5 wr => ∃ k : Nat, k ≤ l.length ∧ l.length - k ≤ kx ∧ s5 = .int .i64 (k : Int) ∧ Hid (x ∉ l.take k) ∧ wr = w)
  case atStart => exact ⟨0, Nat.zero_le _, by omega, rfl, by show _ ∉ _; simp, rfl⟩
  case round =>
    obtain ⟨k, hk, hkx, rfl, HM, rfl⟩ := hrel
    by_cases hlt : k < l.length
    · obtain ⟨b, off, rfl, hb, hc⟩ := HA.out (by intro e; rw [e] at hlt; simp at hlt)
      have hck := hc k hlt
      have hok := HOK.out l[k] (by simp)
      unfold I64 at hok
      have HT : Hid (l.take (k + 1) = l.take k ++ [l[k]]) := List.take_succ_eq_append_getElem hlt
      have HG : Hid (l[k] ∈ l) := by show _ ∈ _; simp
      have hlt' : (k : Int) < (l.length : Int) := by omega
      clear hc
      by_cases he : x = l[k]
      · have HE := hid he
        clear he
        rw [← HE.out] at hck
        have HF : Hid (hasB l x = true) := by show _ = _; rw [hasB_iff, HE.out]; exact HG.out
        go_wp2_with fail
        go_ret
        exact ⟨by rw [HF.out]; rfl, rfl⟩
      · generalize l[k] = y at *
        have he' : (y == x) = false := by simp; omega
        go_wp2_with fail
        go_roundg (l.length - (k + 1))
        case measure => omega
        case rel => exact ⟨k + 1, by omega, Nat.le_refl _, by go_num, by show _ ∉ _; rw [HT.out]; simp; exact ⟨HM.out, he⟩, rfl⟩
    · have hlt' : ¬ (k : Int) < (l.length : Int) := by omega
      go_wp2_with fail
      go_ret
      have HN := HM.out
      rw [List.take_of_length_le (by omega)] at HN
      exact ⟨ret_bool (by rw [eq_comm, Bool.eq_false_iff]; intro e; exact HN (hasB_iff.1 e)), rfl⟩
set_option maxHeartbeats 3200000 in
theorem rsame_any {w : World} {v u : Value} {l m : List Int} (h : IL w v l) (hm : IL w u m) : Calls Try.prog 36 #[v, u] w fun e w' => e = .returned (.bool (decide (l = m))) ∧ Below w.heap.size w w' := by
  obtain ⟨⟨a, cap, rfl, hcap, hcm, hnn, hat⟩, hok, hfew⟩ := h
  obtain ⟨⟨ua, ucap, rfl, _, _, _, uat⟩, uok, ufew⟩ := hm
  have HA := hid hat
  have HU := hid uat
  have HOK := hid hok
  have HUK := hid uok
  clear hat uat hok uok hnn hcap hcm
  by_cases hl : l.length = m.length
  · have HL := hid hl
    have hmlen : ¬ ((l.length : Int) ≠ (m.length : Int)) := by omega
    rw [← hl]
    clear hl
    go_enter Try.func36, Try.ntmps36
    go_wp2_with fail
    go_loopg [5] l.length (fun kx s5 wr => ∃ k : Nat, k ≤ l.length ∧ l.length - k ≤ kx ∧ s5 = .int .i64 (k : Int) ∧ Hid (l.take k = m.take k ∧ Below w.heap.size w wr))
    case atStart => exact ⟨0, Nat.zero_le _, by omega, rfl, by simp, Below.refl _ _⟩
    case round =>
      obtain ⟨k, hk, hkx, rfl, HR⟩ := hrel
      by_cases hlt : k < l.length
      · have hltm : k < m.length := by have := HL.out; omega
        obtain ⟨b, off, rfl, hb, hc⟩ := HA.out (by intro e; rw [e] at hlt; simp at hlt)
        obtain ⟨b2, off2, rfl, hb2, hc2⟩ := HU.out (by intro e; rw [e] at hltm; simp at hltm)
        have hck := kept_cell HR.out.2 (hc k hlt)
        have hck2 := kept_cell HR.out.2 (hc2 k hltm)
        have hok := HOK.out l[k] (by simp)
        have huk := HUK.out m[k] (by simp)
        have HT := hid (take_eq_snoc HR.out.1 hlt hltm)
        have HE : Hid (l = m → l[k] = m[k]) := fun e => by subst e; rfl
        have hlt' : (k : Int) < (l.length : Int) := by omega
        have hk0 : (0 : Int) ≤ (k : Int) := by omega
        generalize l[k] = y at *
        generalize m[k] = z at *
        clear hc hc2
        by_cases he : y = z
        · have HTT := hid (HT.out he)
          subst he
          go_wp2_with fail
          go_quiet (fail)
          go_wp2_with fail
          go_roundg (l.length - (k + 1))
          case measure => omega
          case rel => exact ⟨k + 1, by omega, Nat.le_refl _, by go_num, HTT.out, by first | exact HR.out.2 | exact HR.out.2.drew | exact below_drewN HR.out.2 _⟩
        · have HF : Hid (decide (l = m) = false) := by show _ = _; simp; intro e; exact he (HE.out e)
          go_wp2_with fail
          go_quiet (fail)
          go_wp2_with fail
          go_ret
          exact ⟨by rw [HF.out]; rfl, by first | exact HR.out.2 | exact HR.out.2.drew | exact below_drewN HR.out.2 _⟩
      · have hlt' : ¬ (k : Int) < (l.length : Int) := by omega
        go_wp2_with fail
        go_ret
        have hr := HR.out
        rw [List.take_of_length_le (by omega), List.take_of_length_le (by have := HL.out; omega)] at hr
        exact ⟨by rw [hr.1]; simp, hr.2⟩
  · have HF : Hid (decide (l = m) = false) := by show _ = _; simp; intro e; exact hl (by rw [e])
    have hmlen : ((l.length : Int) ≠ (m.length : Int)) := by omega
    go_enter Try.func36, Try.ntmps36
    go_wp2_with fail
    go_ret
    exact ⟨by rw [HF.out]; rfl, Below.refl _ _⟩
set_option maxHeartbeats 3200000 in
theorem rinL_any {w : World} {v u : Value} {l m : List Int} (h : IL w v l) (hm : IL w u m) : Calls Try.prog 43 #[v, u] w fun e w' => ∃ v', e = .returned v' ∧ IL w' v' (inL l m) ∧ In (fun b => w.heap.size ≤ b) v' (inL l m) ∧ Below w.heap.size w w' := by
  have HM := hid hm
  obtain ⟨i0, hi0, hz0, hz1, hz2⟩ := info3
  obtain ⟨⟨a, cap, rfl, hcap, hcm, hnn, hat⟩, hok, hfew⟩ := h
  obtain ⟨⟨ua, ucap, rfl, _⟩, _⟩ := hm
  have HA := hid hat
  have HOK := hid hok
  have hlen : l.length ≤ maxLen := by omega
  have hlen2 : l.length ≤ 9223372036854775807 := by unfold maxLen at hlen; omega
  clear hat hok hnn hcap hcm
  go_enter Try.func43, Try.ntmps43
  go_wp2_with fail
  go_loopg [5, 6] l.length (fun kx s5 s6 wr => ∃ k : Nat, k ≤ l.length ∧ l.length - k ≤ kx ∧ s6 = .int .i64 (k : Int) ∧ Hid (wr.ownsRow w.heap.size 3 1 s5 (inL (l.take k) m).length (vals (inL (l.take k) m)) ∧ Below w.heap.size w wr) ∧ (∃ a n c, s5 = .slice a n c))
  case atStart => exact ⟨0, Nat.zero_le _, by omega, rfl, ⟨World.ownsRow_nil _ _ _ _, Below.refl _ _⟩, ⟨_, _, _, rfl⟩⟩
  case round =>
    obtain ⟨k, hk, hkx, rfl, HR, ⟨a1, n1, c1, rfl⟩⟩ := hrel
    by_cases hlt : k < l.length
    · obtain ⟨b, off, rfl, hb, hc⟩ := HA.out (by intro e; rw [e] at hlt; simp at hlt)
      have hck := kept_cell HR.out.2 (hc k hlt)
      have hok := HOK.out l[k] (by simp)
      have HS := hid (inL_snoc l m k hlt)
      have H39 := hid (rhas_any (HM.out.under HR.out.2) l[k] hok)
      have hlt' : (k : Int) < (l.length : Int) := by omega
      have hn1 : (inL (l.take k) m).length ≤ k := by have := len_inL (l.take k) m; rw [List.length_take] at this; omega
      generalize l[k] = y at *
      clear hc
      cases hB : hasB m y with
      | true =>
        rw [hB] at H39 HS
        rw [if_pos rfl] at HS
        go_wp2_with fail
        refine H39.out.mono ?_
        rintro e w1 ⟨rfl, rfl⟩
        have HX : Hid ((wr.alloc (.cells #[.int .i64 y] 3)).ownsRow w.heap.size 3 1 (.slice a1 n1 c1) (inL (l.take k) m).length (vals (inL (l.take k) m))) := HR.out.1.alloc _
        have HN1 : Hid (∀ j u, ([.int .i64 y] : List Value)[j]? = some u → (wr.alloc (.cells #[.int .i64 y] 3)).cell? ((⟨wr.heap.size, 0, none⟩ : Addr).add j) = some u) := fun j u hu => by
          cases j with
          | zero => simp at hu; subst hu; rw [add_at]; exact cell_blk (heap_alloc_new _ _) 0 _ rfl
          | succ j => simp at hu
        have HO1 : Hid (∀ u ∈ ([.int .i64 y] : List Value), u.oneCell' = true) := fun u hu => by simp at hu; subst hu; rfl
        have hbs := HR.out.2.size
        go_wp2_with (at_builtin; go_loud (refine wpList_append_own_at _ rfl _ _ 22 rfl w.heap.size 3 i0 _ 1 8 Try.underlying22 hi0 hz0 hz1 hz2 rfl (by decide) _ (inL (l.take k) m).length _ rfl HX.out ⟨wr.heap.size, 0, none⟩ 1 1 [.int .i64 y] rfl rfl HN1.out HO1.out (by omega) (by unfold maxLen at hlen; omega) (by simp; omega) ?_); intro v2 w2 hown2 hg2 _ hat2)
        have hsh : ∃ a n c, v2 = .slice a n c := by
          rcases hown2.2 with ⟨e, _⟩ | ⟨g, cp, cur, e, _⟩
          · exact ⟨_, _, _, e⟩
          · exact ⟨_, _, _, e⟩
        obtain ⟨a2, n2, c2, rfl⟩ := hsh
        have HB2 : Hid (Below w.heap.size w w2) := (HR.out.2.alloc hbs _).grown hg2 (by have := (HR.out.2.alloc hbs (.cells #[.int .i64 y] 3)).size; exact this) (fun j hj => (World.ownsRow.lt HX.out j hj).1)
        have HW2 := hid hown2
        clear hown2 hg2 hat2
        go_wp2_with fail
        go_roundg (l.length - (k + 1))
        case measure => omega
        case rel => exact ⟨k + 1, by omega, Nat.le_refl _, by go_num, ⟨by rw [HS.out]; simp only [List.length_append, List.length_cons, List.length_nil, Nat.zero_add, vals, List.map_append, List.map_cons, List.map_nil]; exact HW2.out, HB2.out⟩, ⟨_, _, _, rfl⟩⟩
      | false =>
        rw [hB] at H39 HS
        rw [if_neg (by simp), List.append_nil] at HS
        go_wp2_with fail
        refine H39.out.mono ?_
        rintro e w1 ⟨rfl, rfl⟩
        go_wp2_with fail
        go_roundg (l.length - (k + 1))
        case measure => omega
        case rel => exact ⟨k + 1, by omega, Nat.le_refl _, by go_num, (by rw [HS.out]; exact HR.out), ⟨_, _, _, rfl⟩⟩
    · have hlt' : ¬ (k : Int) < (l.length : Int) := by omega
      go_wp2_with fail
      go_ret
      have hr := HR.out
      rw [List.take_of_length_le (by omega)] at hr
      exact ⟨_, rfl, IL.of hr.1 (fun x hx => HOK.out x (by unfold inL at hx; exact (List.mem_filter.1 hx).1)) (by have := len_inL l m; omega), in_own hr.1, hr.2⟩

set_option maxHeartbeats 3200000 in
theorem routL_any {w : World} {v u : Value} {l m : List Int} (h : IL w v l) (hm : IL w u m) : Calls Try.prog 63 #[v, u] w fun e w' => ∃ v', e = .returned v' ∧ IL w' v' (outL l m) ∧ In (fun b => w.heap.size ≤ b) v' (outL l m) ∧ Below w.heap.size w w' := by
  have HM := hid hm
  obtain ⟨i0, hi0, hz0, hz1, hz2⟩ := info3
  obtain ⟨⟨a, cap, rfl, hcap, hcm, hnn, hat⟩, hok, hfew⟩ := h
  obtain ⟨⟨ua, ucap, rfl, _⟩, _⟩ := hm
  have HA := hid hat
  have HOK := hid hok
  have hlen : l.length ≤ maxLen := by omega
  have hlen2 : l.length ≤ 9223372036854775807 := by unfold maxLen at hlen; omega
  clear hat hok hnn hcap hcm
  go_enter Try.func63, Try.ntmps63
  go_wp2_with fail
  go_loopg [5, 6] l.length (fun kx s5 s6 wr => ∃ k : Nat, k ≤ l.length ∧ l.length - k ≤ kx ∧ s6 = .int .i64 (k : Int) ∧ Hid (wr.ownsRow w.heap.size 3 1 s5 (outL (l.take k) m).length (vals (outL (l.take k) m)) ∧ Below w.heap.size w wr) ∧ (∃ a n c, s5 = .slice a n c))
  case atStart => exact ⟨0, Nat.zero_le _, by omega, rfl, ⟨World.ownsRow_nil _ _ _ _, Below.refl _ _⟩, ⟨_, _, _, rfl⟩⟩
  case round =>
    obtain ⟨k, hk, hkx, rfl, HR, ⟨a1, n1, c1, rfl⟩⟩ := hrel
    by_cases hlt : k < l.length
    · obtain ⟨b, off, rfl, hb, hc⟩ := HA.out (by intro e; rw [e] at hlt; simp at hlt)
      have hck := kept_cell HR.out.2 (hc k hlt)
      have hok := HOK.out l[k] (by simp)
      have HS := hid (outL_snoc l m k hlt)
      have H50 := hid (rhas_any (HM.out.under HR.out.2) l[k] hok)
      have hlt' : (k : Int) < (l.length : Int) := by omega
      have hn1 : (outL (l.take k) m).length ≤ k := by have := len_outL (l.take k) m; rw [List.length_take] at this; omega
      generalize l[k] = y at *
      clear hc
      cases hB0 : hasB m y with
      | false =>
        have hB : lackB m y = true := by simp [lackB, hB0]
        rw [hB0] at H50
        rw [hB] at HS
        rw [if_pos rfl] at HS
        go_wp2_with fail
        refine H50.out.mono ?_
        rintro e w1 ⟨rfl, rfl⟩
        have HX : Hid ((wr.alloc (.cells #[.int .i64 y] 3)).ownsRow w.heap.size 3 1 (.slice a1 n1 c1) (outL (l.take k) m).length (vals (outL (l.take k) m))) := HR.out.1.alloc _
        have HN1 : Hid (∀ j u, ([.int .i64 y] : List Value)[j]? = some u → (wr.alloc (.cells #[.int .i64 y] 3)).cell? ((⟨wr.heap.size, 0, none⟩ : Addr).add j) = some u) := fun j u hu => by
          cases j with
          | zero => simp at hu; subst hu; rw [add_at]; exact cell_blk (heap_alloc_new _ _) 0 _ rfl
          | succ j => simp at hu
        have HO1 : Hid (∀ u ∈ ([.int .i64 y] : List Value), u.oneCell' = true) := fun u hu => by simp at hu; subst hu; rfl
        have hbs := HR.out.2.size
        go_wp2_with (at_builtin; go_loud (refine wpList_append_own_at _ rfl _ _ 22 rfl w.heap.size 3 i0 _ 1 8 Try.underlying22 hi0 hz0 hz1 hz2 rfl (by decide) _ (outL (l.take k) m).length _ rfl HX.out ⟨wr.heap.size, 0, none⟩ 1 1 [.int .i64 y] rfl rfl HN1.out HO1.out (by omega) (by unfold maxLen at hlen; omega) (by simp; omega) ?_); intro v2 w2 hown2 hg2 _ hat2)
        have hsh : ∃ a n c, v2 = .slice a n c := by
          rcases hown2.2 with ⟨e, _⟩ | ⟨g, cp, cur, e, _⟩
          · exact ⟨_, _, _, e⟩
          · exact ⟨_, _, _, e⟩
        obtain ⟨a2, n2, c2, rfl⟩ := hsh
        have HB2 : Hid (Below w.heap.size w w2) := (HR.out.2.alloc hbs _).grown hg2 (by have := (HR.out.2.alloc hbs (.cells #[.int .i64 y] 3)).size; exact this) (fun j hj => (World.ownsRow.lt HX.out j hj).1)
        have HW2 := hid hown2
        clear hown2 hg2 hat2
        go_wp2_with fail
        go_roundg (l.length - (k + 1))
        case measure => omega
        case rel => exact ⟨k + 1, by omega, Nat.le_refl _, by go_num, ⟨by rw [HS.out]; simp only [List.length_append, List.length_cons, List.length_nil, Nat.zero_add, vals, List.map_append, List.map_cons, List.map_nil]; exact HW2.out, HB2.out⟩, ⟨_, _, _, rfl⟩⟩
      | true =>
        have hB : lackB m y = false := by simp [lackB, hB0]
        rw [hB0] at H50
        rw [hB] at HS
        rw [if_neg (by simp), List.append_nil] at HS
        go_wp2_with fail
        refine H50.out.mono ?_
        rintro e w1 ⟨rfl, rfl⟩
        go_wp2_with fail
        go_roundg (l.length - (k + 1))
        case measure => omega
        case rel => exact ⟨k + 1, by omega, Nat.le_refl _, by go_num, (by rw [HS.out]; exact HR.out), ⟨_, _, _, rfl⟩⟩
    · have hlt' : ¬ (k : Int) < (l.length : Int) := by omega
      go_wp2_with fail
      go_ret
      have hr := HR.out
      rw [List.take_of_length_le (by omega)] at hr
      exact ⟨_, rfl, IL.of hr.1 (fun x hx => HOK.out x (by unfold outL at hx; exact (List.mem_filter.1 hx).1)) (by have := len_outL l m; omega), in_own hr.1, hr.2⟩


theorem out_len (l m : List Int) : decide ((outL l m).length = 0) = l.all (hasB m) := by
  rw [Bool.eq_iff_iff]
  simp only [decide_eq_true_eq, List.all_eq_true, hasB_iff]
  constructor
  · intro h x hx
    have he := List.eq_nil_of_length_eq_zero h
    exact Decidable.byContradiction fun hn => by
      have : x ∈ outL l m := mem_outL.2 ⟨hx, hn⟩
      rw [he] at this; cases this
  · intro h
    cases hL : outL l m with
    | nil => rfl
    | cons x r =>
      have hx : x ∈ outL l m := by rw [hL]; simp
      exact absurd (h x (mem_outL.1 hx).1) (mem_outL.1 hx).2
set_option maxHeartbeats 800000 in
theorem rpart_any {w : World} {v u : Value} {l m : List Int} (h : IL w v l) (hm : IL w u m) : Calls Try.prog 41 #[v, u] w fun e w' => e = .returned (.bool (l.all (hasB m))) ∧ Below w.heap.size w w' := by
  have G := hid (routL_any h hm)
  obtain ⟨a, c, rfl, _⟩ := h.shape
  obtain ⟨a2, c2, rfl, _⟩ := hm.shape
  rw [← out_len]
  generalize outL l m = T at *
  go_enter Try.func41, Try.ntmps41
  go_wp2_with fail
  refine G.out.mono ?_
  rintro e W1 ⟨v', rfl, h1, _, hb⟩
  obtain ⟨va, vc, rfl, _⟩ := h1.shape
  clear h1
  go_wp2_with fail
  go_ret
  refine ⟨ret_bool ?_, hb⟩
  rw [Bool.eq_iff_iff]; simp

set_option maxHeartbeats 1600000 in
theorem rcopied_any {w : World} {v : Value} {l : List Int} (h : IL w v l) : Calls Try.prog 65 #[v] w fun e w' => ∃ v', e = .returned v' ∧ IL w' v' l ∧ In (fun b => w.heap.size ≤ b) v' l ∧ Below w.heap.size w w' := by
  obtain ⟨i0, hi0, hz0, hz1, hz2⟩ := info3
  have HI := hid h
  obtain ⟨⟨a, cap, rfl, hcap, hcm, hnn, hat⟩, hok, hfew⟩ := h
  have HOK := hid hok
  have HROW : Hid ((w.alloc (.cells #[] 3)).ownsRow w.heap.size 3 1 (.slice (some ⟨w.heap.size, 0, none⟩) 0 0) 0 []) := ⟨rfl, .inr ⟨w.heap.size, 0, #[], rfl, Nat.le_refl _, heap_alloc_new _ _, Nat.le_refl _, Nat.zero_le _, rfl, rfl⟩⟩
  have hb0 : Below w.heap.size w (w.alloc (.cells #[] 3)) := (Below.refl _ _).alloc (Nat.le_refl _) _
  have HB0 := hid hb0
  cases a with
  | none =>
    have h0 := hnn rfl
    subst h0
    have hl : l = [] := List.eq_nil_of_length_eq_zero (by omega)
    subst hl
    clear hat hok hnn hcap hcm hb0
    go_enter Try.func65, Try.ntmps65
    go_wp2_with (at_builtin; refine wpList_append_own_none rfl _ _ 22 rfl w.heap.size 3 i0 1 Try.underlying22 hi0 _ 0 [] rfl HROW.out rfl ?_)
    go_ret
    exact ⟨_, rfl, IL.of (l := []) HROW.out (fun x hx => by cases hx) (by simp), In.nil _ _, HB0.out⟩
  | some ad =>
    have HNW : Hid (∀ j u, (vals l)[j]? = some u → (w.alloc (.cells #[] 3)).cell? (ad.add j) = some u) := (HI.out.under hb0).vcells.2
    have HON := hid (vals_one l)
    have HLn : Hid ((vals l).length = l.length * 1) := by show _ = _; rw [vals_length]; omega
    clear hat hok hnn hcap hcm hb0
    go_enter Try.func65, Try.ntmps65
    go_wp2_with (at_builtin; refine wpList_append_own_at _ rfl _ _ 22 rfl w.heap.size 3 i0 _ 1 8 Try.underlying22 hi0 hz0 hz1 hz2 rfl (by decide) _ 0 [] rfl HROW.out ad l.length cap (vals l) rfl HLn.out HNW.out HON.out (by unfold maxLen; omega) (by omega) (by simp) ?_; intro v' w2 hown2 hg2 _ hat)
    go_ret
    refine ⟨v', rfl, ?_, in_own hown2, HB0.out.grown hg2 HB0.out.size (fun j hj => by cases hj; exact Nat.le_refl _)⟩
    rw [Nat.zero_add, List.nil_append] at hown2
    exact IL.of hown2 HOK.out hfew
end Go.Proofs.Ytfahepeemodcbaa
