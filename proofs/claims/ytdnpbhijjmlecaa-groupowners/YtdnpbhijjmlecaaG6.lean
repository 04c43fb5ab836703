/- Assign. -/
import Derived.Test.YtdnpbhijjmlecaaG5
namespace Go.Proofs.Ytdnpbhijjmlecaa
open Go.RowKit Go.Maps
set_option maxRecDepth 100000
set_option linter.unusedSimpArgs false
set_option linter.unusedVariables false

theorem il_sub {w : World} {a : Option Addr} {cap : Nat} {l : List Int} (h : IL w (.slice a l.length cap) l) (f m : Nat) (hf : f + m ≤ l.length) : (cap = f → IL w (.slice a m 0) ((l.drop f).take m)) ∧ IL w (.slice (Option.map (fun x => x.add f) a) m (cap - f)) ((l.drop f).take m) := by
  have hlen : ((l.drop f).take m).length = m := by rw [List.length_take, List.length_drop]; omega
  obtain ⟨⟨a', cap', e, h1, h2, h3, h4⟩, h5, h6⟩ := h
  cases e
  have hok : ∀ x ∈ (l.drop f).take m, I64 x := fun x hx => h5 x (List.mem_of_mem_drop (List.mem_of_mem_take hx))
  refine ⟨fun hc => ?_, ?_⟩
  · have hm : m = 0 := by omega
    subst hm
    refine ⟨⟨a, 0, by rw [hlen], by simp, Nat.zero_le _, fun _ => rfl, fun hn => absurd (List.take_zero) hn⟩, hok, by simp⟩
  · refine ⟨⟨_, _, by rw [hlen], by omega, by omega, fun hn => ?_, fun hn => ?_⟩, hok, by omega⟩
    · rw [Option.map_eq_none_iff] at hn
      have := h3 hn
      omega
    · have hl : l ≠ [] := fun e => hn (by subst e; simp)
      obtain ⟨b, off, rfl, g1, g2⟩ := h4 hl
      refine ⟨b, off + f, by simp [add_at], g1, fun i hi => ?_⟩
      have := g2 (f + i) (by omega)
      rw [← Nat.add_assoc] at this
      rw [this]
      simp
/-- What a call leaves of the row so far. -/
def AInv (w wr : World) (l : List Int) (k i : Nat) : Prop := ∃ ds : List Value, ds.length = i ∧ wr.heap[w.heap.size]? = some (.cells (ds ++ List.replicate (k - i) noS).toArray 30) ∧ (∀ j (h : j < ds.length), IL wr ds[j] (shareL l k j) ∧ In (fun b => w.heap.size + 1 ≤ b) ds[j] (shareL l k j)) ∧ Below w.heap.size w wr
theorem AInv.below {w wr : World} {l : List Int} {k i : Nat} (h : AInv w wr l k i) : Below w.heap.size w wr := by obtain ⟨ds, h1, h2, h3, h4⟩ := h; exact h4
theorem AInv.start (w : World) (l : List Int) (k : Nat) : AInv w (w.alloc (.cells (List.replicate k noS).toArray 30)) l k 0 :=
  ⟨[], rfl, heap_alloc_new _ _, fun j h => by simp at h, (Below.refl _ _).alloc (Nat.le_refl _) _⟩
theorem AInv.next {w wr : World} {l : List Int} {k i : Nat} (h : AInv w wr l k i) (hi : i < k) {v : Value} {w1 : World} (h1 : IL w1 v (shareL l k i)) (h2 : In (fun b => wr.heap.size ≤ b) v (shareL l k i)) (hb : Below wr.heap.size wr w1) :
    w1.cell? ⟨w.heap.size, i, none⟩ = some noS ∧ w1.frozen? ⟨w.heap.size, i, none⟩ = false ∧ (v.oneCell' = true → AInv w (w1.setCell ⟨w.heap.size, i, none⟩ v) l k (i + 1)) := by
  obtain ⟨ds, d1, d2, d3, d4⟩ := h
  have hlt := (Array.getElem?_eq_some_iff.1 d2).1
  have hg := (hb.block _ hlt).trans d2
  refine ⟨cell_blk hg i _ ?_, frz_blk hg i, fun hv => ?_⟩
  · rw [List.getElem?_toArray, List.getElem?_append_right (by omega), d1, Nat.sub_self, List.getElem?_replicate, if_pos (by omega)]
  · have e : (ds ++ List.replicate (k - i) noS).set i v = (ds ++ [v]) ++ List.replicate (k - (i + 1)) noS := by
      obtain ⟨m, hm⟩ : ∃ m, k - i = m + 1 := ⟨k - i - 1, by omega⟩
      rw [hm, show k - (i + 1) = m by omega, List.replicate_succ, List.set_append_right _ _ (by omega), d1, Nat.sub_self]
      simp
    refine ⟨ds ++ [v], by simp [d1], ?_, fun j hj => ?_, ?_⟩
    · rw [set_box hg, ← e]
      congr 2
      apply Array.ext'
      simp
    · have hk : ∀ b, w.heap.size + 1 ≤ b → (w1.setCell ⟨w.heap.size, i, none⟩ v).heap[b]? = w1.heap[b]? := fun b hb => Below.heap_setCell _ _ _ _ (by simp; omega)
      by_cases hj2 : j < ds.length
      · obtain ⟨g1, g2⟩ := d3 j hj2
        have e2 : (ds ++ [v])[j] = ds[j] := List.getElem_append_left hj2
        rw [e2]
        exact ⟨(g1.under hb).kept g2 hk (by simp), g2⟩
      · have hjl : j = ds.length := by simp at hj; omega
        subst hjl
        have e2 : (ds ++ [v])[ds.length] = v := by simp
        rw [e2, d1]
        have g2 : In (fun b => w.heap.size + 1 ≤ b) v (shareL l k i) := h2.mono (fun b hb => by omega)
        exact ⟨h1.kept g2 hk (by simp), g2⟩
    · exact (d4.trans (hb.mono d4.size)).setCell (Nat.le_refl _) _
set_option maxHeartbeats 6400000 in
theorem assign_any {w : World} {v u : Value} {ms l : List Int} (hm : IL w v ms) (hl : IL w u l) (hk : ms.length ≤ 1000) : Calls Try.prog 15 #[v, u] w fun e w' => e = .returned (.slice (some ⟨w.heap.size, 0, none⟩) ms.length ms.length) ∧ AInv w w' l ms.length ms.length := by
  have HL := hid hl
  obtain ⟨a, cap, rfl, hcap, hcm, hnn⟩ : ∃ a cap, u = .slice a l.length cap ∧ l.length ≤ cap ∧ cap ≤ maxLen ∧ (a = none → cap = 0) := by obtain ⟨⟨a, cap, e, h1, h2, h3, _⟩, _⟩ := hl; exact ⟨a, cap, e, h1, h2, h3⟩
  obtain ⟨ma, mcap, rfl⟩ : ∃ ma mcap, v = .slice ma ms.length mcap := by obtain ⟨⟨a, cap, e, _⟩, _⟩ := hm; exact ⟨a, cap, e⟩
  have hfew := hl.few
  clear hl hm
  have HNN := hid hnn
  clear hnn
  generalize ms.length = k at *
  have hmk := make42 w k hk
  obtain ⟨n, hn⟩ : ∃ n, n = l.length := ⟨_, rfl⟩
  have HN := hid hn
  rw [← hn] at hcap hfew ⊢
  clear hn
  go_enter Try.func15, Try.ntmps15
  go_wp2_with fail
  go_loopg [6, 7, 8, 14] k (fun kx s6 s7 s8 s14 wr => ∃ i : Nat, i ≤ k ∧ k - i ≤ kx ∧ s14 = .int .i64 (i : Int) ∧ s6 = .int .i64 (fromN n k i : Int) ∧ Hid (AInv w wr l k i))
  case atStart => exact ⟨0, Nat.zero_le _, by omega, rfl, rfl, AInv.start w l k⟩
  case round =>
    obtain ⟨i, hi, hkx, rfl, rfl, HI⟩ := hrel
    by_cases hlt : i < k
    · have hlt' : (i : Int) < (k : Int) := by omega
      have hk0 : (k : Int) ≠ 0 := by omega
      have HF := hid (from_top n k i hlt)
      have HS1 := hid (show fromN n k (i + 1) = fromN n k i + shareN n k i from rfl)
      have HIL := HL.out
      have hsub := il_sub (HIL.under HI.out.below) (fromN n k i) (shareN n k i) (by rw [← HN.out]; exact HF.out)
      have HSUB : Hid ((cap = fromN n k i → IL wr (.slice a (shareN n k i) 0) (shareL l k i)) ∧ IL wr (.slice (Option.map (fun x => x.add (fromN n k i)) a) (shareN n k i) (cap - fromN n k i)) (shareL l k i)) := by
        have e : shareL l k i = (l.drop (fromN n k i)).take (shareN n k i) := by unfold shareL; rw [← HN.out]
        rw [e]; exact hsub
      clear hsub HIL
      have HNX : Hid (∀ v w1, IL w1 v (shareL l k i) → In (fun b => wr.heap.size ≤ b) v (shareL l k i) → Below wr.heap.size wr w1 → w1.cell? ⟨w.heap.size, i, none⟩ = some noS ∧ w1.frozen? ⟨w.heap.size, i, none⟩ = false ∧ (v.oneCell' = true → AInv w (w1.setCell ⟨w.heap.size, i, none⟩ v) l k (i + 1))) := fun v w1 h1 h2 h3 => HI.out.next hlt h1 h2 h3
      have hfb := HF.out
      generalize hff : fromN n k i = f at *
      have HCL : Hid (∀ v, IL wr v (shareL l k i) → Calls Try.prog 33 #[v] wr fun e w' => ∃ v', e = .returned v' ∧ IL w' v' (shareL l k i) ∧ In (fun b => wr.heap.size ≤ b) v' (shareL l k i) ∧ Below wr.heap.size wr w') := fun v hv => clone_any hv
      clear hff
      generalize shareL l k i = ls at *
      have hd : (n : Int) / (k : Int) = ((n / k : Nat) : Int) := by simp
      by_cases hr : i < n % k
      · have hr' : (i : Int) < (n : Int) % (k : Int) := by omega
        have hs : shareN n k i = n / k + 1 := by unfold shareN; rw [if_pos hr]
        rw [hs] at hfb HSUB HS1
        clear hs
        generalize n / k = d at *
        clear HF
        go_wp2_with fail
        refine (HCL.out _ HSUB.out.2).mono ?_
        rintro e w1 ⟨v', rfl, h1, h2, hb1⟩
        obtain ⟨va, vn, vc, rfl⟩ : ∃ a n c, v' = .slice a n c := by obtain ⟨⟨a, cap, e, _⟩, _⟩ := h1; exact ⟨_, _, _, e⟩
        obtain ⟨g1, g2, g3⟩ := HNX.out _ w1 h1 h2 hb1
        have HN2 := hid (g3 rfl)
        clear h1 h2 hb1 g3 HNX HCL HSUB
        go_wp2_with fail
        go_roundg (k - (i + 1))
        case measure => omega
        case rel => exact ⟨i + 1, by omega, Nat.le_refl _, by go_num, by rw [HS1.out]; go_num, HN2.out⟩
      · have hr' : ¬ (i : Int) < (n : Int) % (k : Int) := by omega
        have hs : shareN n k i = n / k := by unfold shareN; rw [if_neg hr]; rfl
        rw [hs] at hfb HSUB HS1
        clear hs
        have hdb : n / k ≤ n := Nat.div_le_self _ _
        generalize n / k = d at *
        clear HF
        by_cases hcf : cap = f
        · have hS := hid (HSUB.out.1 hcf)
          have hd0 : d = 0 := by omega
          subst hd0
          subst hcf
          have hd : (n : Int) / (k : Int) = 0 := by simpa using hd
          go_wp2_with fail
          all_goals first | (exfalso; omega) | skip
          refine (HCL.out _ hS.out).mono ?_
          rintro e w1 ⟨v', rfl, h1, h2, hb1⟩
          obtain ⟨va, vn, vc, rfl⟩ : ∃ a n c, v' = .slice a n c := by obtain ⟨⟨a, cap, e, _⟩, _⟩ := h1; exact ⟨_, _, _, e⟩
          obtain ⟨g1, g2, g3⟩ := HNX.out _ w1 h1 h2 hb1
          have HN2 := hid (g3 rfl)
          clear h1 h2 hb1 g3 HNX HCL HSUB
          go_wp2_with fail
          go_roundg (k - (i + 1))
          case measure => omega
          case rel => exact ⟨i + 1, by omega, Nat.le_refl _, by go_num, by rw [HS1.out]; go_num, HN2.out⟩
        · go_wp2_with fail
          all_goals first | (exfalso; omega) | skip
          refine (HCL.out _ HSUB.out.2).mono ?_
          rintro e w1 ⟨v', rfl, h1, h2, hb1⟩
          obtain ⟨va, vn, vc, rfl⟩ : ∃ a n c, v' = .slice a n c := by obtain ⟨⟨a, cap, e, _⟩, _⟩ := h1; exact ⟨_, _, _, e⟩
          obtain ⟨g1, g2, g3⟩ := HNX.out _ w1 h1 h2 hb1
          have HN2 := hid (g3 rfl)
          clear h1 h2 hb1 g3 HNX HCL HSUB
          go_wp2_with fail
          go_roundg (k - (i + 1))
          case measure => omega
          case rel => exact ⟨i + 1, by omega, Nat.le_refl _, by go_num, by rw [HS1.out]; go_num, HN2.out⟩
    · have hik : i = k := by omega
      subst hik
      have hlt' : ¬ (i : Int) < (i : Int) := by omega
      go_wp2_with fail
      go_ret
      exact ⟨rfl, HI.out⟩
end Go.Proofs.Ytdnpbhijjmlecaa
