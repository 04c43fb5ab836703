/- Lists of numbers in memory; Index, Contains, Clone. -/
import Derived.Test.YtdnpbhijjmlecaaRows
import Derived.Test.YtdnpbhijjmlecaaG0
import Derived.WalkKit
import Derived.WalkSpells
import Derived.WalkLawsBesides
import Derived.Deep.LoopGhost
import Derived.Maps.AppendAt
import Derived.Maps.Range
import Derived.Deep.QuietTactic
import Derived.BigQuiet
import Derived.Lib.SliceRun
import Derived.Laws.AppendOwnNone
namespace Go.Proofs.Ytdnpbhijjmlecaa
open Go.RowKit Go.Maps
set_option linter.unusedSimpArgs false
set_option linter.unusedVariables false
set_option maxRecDepth 100000

theorem hid {p : Prop} (h : p) : Hid p := h
theorem ret_int {k : IntKind} {a b : Int} (h : a = b) : Ending.returned (.int k a) = .returned (.int k b) := by rw [h]
theorem ret_bool {a b : Bool} (h : a = b) : Ending.returned (.bool a) = .returned (.bool b) := by rw [h]
theorem cell_blk {w : World} {q : Nat} {cs : Array Value} {T : TypeId} {mk : Nat × Nat} (h : w.heap[q]? = some (.cells cs T mk)) (j : Nat) (u : Value) (hu : cs[j]? = some u) : w.cell? ⟨q, j, none⟩ = some u := by
  simp [World.cell?, h, hu]
theorem kept_cell {W W' : World} (hb : Below W.heap.size W W') {p : Addr} {u : Value} (hu : W.cell? p = some u) : W'.cell? p = some u := (World.cell?_of_block (hb.block p.block (World.block_lt_of_cell? W _ hu))).trans hu

/-- A slice of numbers that is there. -/
structure IL (w : World) (v : Value) (l : List Int) : Prop where
  shape : ∃ a cap, v = .slice a l.length cap ∧ l.length ≤ cap ∧ cap ≤ maxLen ∧ (a = none → cap = 0) ∧ (l ≠ [] → ∃ b off, a = some ⟨b, off, none⟩ ∧ b < w.heap.size ∧ ∀ i (h : i < l.length), w.cell? ⟨b, off + i, none⟩ = some (.int .i64 l[i]))
  ok : ∀ x ∈ l, I64 x
  few : l.length ≤ 17592186044415
theorem IL.under {w w' : World} {v : Value} {l : List Int} (h : IL w v l) (hb : Below w.heap.size w w') : IL w' v l := by
  obtain ⟨⟨a, cap, e, h1, h2, h3, h4⟩, h5, h6⟩ := h
  refine ⟨⟨a, cap, e, h1, h2, h3, fun hn => ?_⟩, h5, h6⟩
  obtain ⟨b, off, e1, e2, e3⟩ := h4 hn
  exact ⟨b, off, e1, Nat.lt_of_lt_of_le e2 hb.size, fun i hi => kept_cell hb (e3 i hi)⟩
theorem IL.nil (w : World) : IL w (.slice none 0 0) [] := ⟨⟨none, 0, rfl, Nat.le_refl _, Nat.zero_le _, fun _ => rfl, fun h => absurd rfl h⟩, (fun x hx => by cases hx), by simp⟩
theorem IL.len {w : World} {v : Value} {l : List Int} (h : IL w v l) : l.length ≤ maxLen := by
  have := h.few
  unfold maxLen
  omega

/-- Where a list lies. -/
def In (X : Nat → Prop) (v : Value) (l : List Int) : Prop := l ≠ [] → ∀ b off n c, v = .slice (some ⟨b, off, none⟩) n c → X b
theorem In.mono {X Y : Nat → Prop} {v : Value} {l : List Int} (h : In X v l) (hm : ∀ b, X b → Y b) : In Y v l := fun hn b off n c e => hm b (h hn b off n c e)
theorem In.nil (X : Nat → Prop) (v : Value) : In X v [] := fun h => absurd rfl h
theorem IL.old {w : World} {v : Value} {l : List Int} (h : IL w v l) : In (fun b => b < w.heap.size) v l := by
  intro hn b off n c e
  obtain ⟨⟨a, cap, e1, h1, h2, h3, h4⟩, h5, h6⟩ := h
  obtain ⟨b', off', e2, e3, _⟩ := h4 hn
  subst e2
  rw [e] at e1
  cases e1
  exact e3
theorem IL.off {w w' : World} {v : Value} {l : List Int} {q : Nat} (h : IL w v l) (hq : In (fun b => b ≠ q) v l) (hb : ∀ b, b ≠ q → w'.heap[b]? = w.heap[b]?) (hs : w.heap.size ≤ w'.heap.size) : IL w' v l := by
  obtain ⟨⟨a, cap, rfl, h1, h2, h3, h4⟩, h5, h6⟩ := h
  refine ⟨⟨a, cap, rfl, h1, h2, h3, fun hn => ?_⟩, h5, h6⟩
  obtain ⟨b, off, rfl, e2, e3⟩ := h4 hn
  exact ⟨b, off, rfl, Nat.lt_of_lt_of_le e2 hs, fun i hi => (World.cell?_of_block (a := ⟨b, off + i, none⟩) (hb b (hq hn b off _ _ rfl))).trans (e3 i hi)⟩

set_option maxHeartbeats 1600000 in
theorem index_any {w : World} {v : Value} {l : List Int} (h : IL w v l) (x : Int) (hx : I64 x) : Calls Try.prog 54 #[v, .int .i64 x] w fun e w' => (∃ r : Int, e = .returned (.int .i64 r) ∧ (hasB l x = true → 0 ≤ r) ∧ (hasB l x = false → r = -1)) ∧ w = w' := by
  have HI := hid h
  obtain ⟨⟨a, cap, rfl, hcap, hcm, hnn, hat⟩, hok, hfew⟩ := h
  have HA := hid hat
  have HOK := hid hok
  have hlen : l.length ≤ 9223372036854775807 := by unfold maxLen at hcm; omega
  clear hat hok hnn hcap hcm
  go_enter Try.func54, Try.ntmps54
  go_wp2_with fail
  go_loopg [8] l.length (fun kx s8 wr => ∃ k : Nat, k ≤ l.length ∧ l.length - k ≤ kx ∧ s8 = .int .i64 (k : Int) ∧ Hid (x ∉ l.take k) ∧ wr = w)
  case atStart => exact ⟨0, Nat.zero_le _, by omega, rfl, by show _ ∉ _; simp, rfl⟩
  case round =>
    obtain ⟨k, hk, hkx, rfl, HM, rfl⟩ := hrel
    by_cases hlt : k < l.length
    · obtain ⟨b, off, rfl, hb, hc⟩ := HA.out (by intro e; rw [e] at hlt; simp at hlt)
      have hck := hc k hlt
      have hok := HOK.out l[k] (by simp)
      unfold I64 at hok
      have HT : Hid (l.take (k + 1) = l.take k ++ [l[k]]) := List.take_succ_eq_append_getElem hlt
      have HG : Hid (l[k] ∈ l) := by show _ ∈ _; simp
      have hlt' : (k : Int) < (l.length : Int) := by omega
      clear hc
      by_cases he : x = l[k]
      · have HE := hid he
        clear he
        rw [← HE.out] at hck
        go_wp2_with fail
        go_ret
        exact ⟨⟨_, rfl, fun _ => by omega, fun hf => by
          have := HG.out
          rw [← HE.out] at this
          rw [hasB_iff.2 this] at hf
          cases hf⟩, rfl⟩
      · generalize l[k] = y at *
        go_wp2_with fail
        go_roundg (l.length - (k + 1))
        case measure => omega
        case rel => exact ⟨k + 1, by omega, Nat.le_refl _, by go_num, by show _ ∉ _; rw [HT.out]; simp; exact ⟨HM.out, he⟩, rfl⟩
    · have hlt' : ¬ (k : Int) < (l.length : Int) := by omega
      go_wp2_with fail
      go_ret
      have HN := HM.out
      rw [List.take_of_length_le (by omega)] at HN
      exact ⟨⟨_, rfl, fun ht => absurd (hasB_iff.1 ht) HN, fun _ => rfl⟩, rfl⟩
set_option maxHeartbeats 800000 in
theorem contains_any {w : World} {v : Value} {l : List Int} (h : IL w v l) (x : Int) (hx : I64 x) : Calls Try.prog 45 #[v, .int .i64 x] w fun e w' => e = .returned (.bool (hasB l x)) ∧ w = w' := by
  have HC := hid (index_any h x hx)
  obtain ⟨⟨a, cap, rfl, _⟩, _⟩ := h
  generalize hasB l x = B at *
  go_enter Try.func45, Try.ntmps45
  go_wp2_with fail
  refine HC.out.mono ?_
  rintro e w1 ⟨⟨r, rfl, h1, h2⟩, rfl⟩
  cases B with
  | true =>
    have hr := h1 rfl
    clear h1 h2
    go_wp2_with fail
    go_ret
    exact ⟨ret_bool (by simp [hr]), rfl⟩
  | false =>
    have hr := h2 rfl
    subst hr
    clear h1 h2
    go_wp2_with fail
    go_ret
    exact ⟨rfl, rfl⟩
theorem info3 : ∃ i, Try.prog.info? 3 = some i ∧ i.zero = some (.int .i64 0) ∧ i.size = 1 ∧ i.bytes = 8 := ⟨_, rfl, rfl, rfl, rfl⟩
def vals (l : List Int) : List Value := l.map fun x => .int .i64 x
theorem vals_one (l : List Int) : ∀ u ∈ vals l, u.oneCell' = true := by
  intro u hu
  obtain ⟨x, _, rfl⟩ := List.mem_map.1 hu
  rfl
theorem vals_length (l : List Int) : (vals l).length = l.length := by simp [vals]
theorem add_at (b o i : Nat) : (⟨b, o, none⟩ : Addr).add i = ⟨b, o + i, none⟩ := by unfold Addr.add; split <;> simp_all
theorem IL.of {w : World} {B : Nat} {v : Value} {l : List Int} (h : w.ownsRow B 3 1 v l.length (vals l)) (hok : ∀ x ∈ l, I64 x) (hf : l.length ≤ 17592186044415) : IL w v l := by
  refine ⟨?_, hok, hf⟩
  have hc := fun g (hg : v.ownBlock = some g) => World.ownsRow.cells h hg
  have hlt := World.ownsRow.lt h
  obtain ⟨h1, h2⟩ := h
  rcases h2 with ⟨rfl, h0⟩ | ⟨g, cap, cur, rfl, hB, hg, hnc, hcm, hcs, htk⟩
  · exact ⟨none, 0, by rw [h0], by omega, Nat.zero_le _, fun _ => rfl, fun hne => absurd (List.eq_nil_of_length_eq_zero h0) hne⟩
  · refine ⟨some ⟨g, 0, none⟩, cap, rfl, hnc, hcm, (fun h => by cases h), fun hne => ⟨g, 0, rfl, (hlt g rfl).2, fun i hi => ?_⟩⟩
    have := hc g rfl i (.int .i64 l[i]) (by simp [vals, hi])
    rw [add_at] at this
    exact this
theorem in_own {w : World} {B n : Nat} {v : Value} {l : List Int} {xs : List Value} (h : w.ownsRow B 3 1 v n xs) : In (fun b => B ≤ b) v l := fun _ b off n c e => (World.ownsRow.lt h b (by
  rcases h.2 with ⟨e1, _⟩ | ⟨g, cap, cur, e1, _⟩
  · rw [e1] at e; cases e
  · rw [e1] at e; cases e; rw [e1]; rfl)).1
theorem IL.cells {w : World} {v : Value} {l : List Int} (h : IL w v l) {b off len cap : Nat} (hv : v = .slice (some ⟨b, off, none⟩) len cap) (hne : l ≠ []) : ∀ j u, (vals l)[j]? = some u → w.cell? ((⟨b, off, none⟩ : Addr).add j) = some u := by
  intro j u hu
  obtain ⟨⟨a, c, e, _, _, _, h4⟩, _⟩ := h
  obtain ⟨b', off', e1, e2, e3⟩ := h4 hne
  subst e1
  subst hv
  cases e
  obtain ⟨hj, e4⟩ := List.getElem?_eq_some_iff.1 hu
  rw [vals_length] at hj
  rw [add_at, e3 j hj, ← e4]
  simp [vals]


set_option maxHeartbeats 1600000 in
theorem clone_any {w : World} {v : Value} {l : List Int} (h : IL w v l) : Calls Try.prog 33 #[v] w fun e w' => ∃ v', e = .returned v' ∧ IL w' v' l ∧ In (fun b => w.heap.size ≤ b) v' l ∧ Below w.heap.size w w' := by
  obtain ⟨i0, hi0, hz0, hz1, hz2⟩ := info3
  have HI := hid h
  obtain ⟨⟨a, cap, rfl, hcap, hcm, hnn, hat⟩, hok, hfew⟩ := h
  have hlen : l.length ≤ maxLen := by omega
  have HNIL := hid (fun W : World => Lib.run_eql_slice_nil (P := Try.prog) W 30 3 a l.length cap 0 0 Try.underlying30)
  have hnil := fun W : World => HNIL.out W
  have HOK := hid hok
  cases a with
  | none =>
    have h0 := hnn rfl
    subst h0
    have hl : l = [] := List.eq_nil_of_length_eq_zero (by omega)
    subst hl
    have hnil2 : ∀ W : World, (binOp .eql 30 (.slice none 0 0) (.slice none 0 0)).run Try.prog W = .ok (.bool true) W := fun W => HNIL.out W
    clear hat hok hnn hcap hcm HNIL hnil
    go_enter Try.func33, Try.ntmps33
    go_wp2_with fail
    go_ret
    exact ⟨_, rfl, IL.nil _, In.nil _ _, Below.refl _ _⟩
  | some ad =>
    have HROW : Hid ((w.alloc (.cells #[] 3)).ownsRow w.heap.size 3 1 (.slice (some ⟨w.heap.size, 0, none⟩) 0 0) 0 []) := ⟨rfl, .inr ⟨w.heap.size, 0, #[], rfl, Nat.le_refl _, heap_alloc_new _ _, Nat.le_refl _, Nat.zero_le _, rfl, rfl⟩⟩
    have hb0 : Below w.heap.size w (w.alloc (.cells #[] 3)) := (Below.refl _ _).alloc (Nat.le_refl _) _
    have HB0 := hid hb0
    have HNW : Hid (∀ j u, (vals l)[j]? = some u → (w.alloc (.cells #[] 3)).cell? (ad.add j) = some u) := by
      by_cases hne : l = []
      · subst hne; intro j u hu; simp [vals] at hu
      · obtain ⟨b, off, e1, _⟩ := hat hne
        cases e1
        exact (HI.out.under hb0).cells rfl hne
    have HON := hid (vals_one l)
    have HLn : Hid ((vals l).length = l.length * 1) := by show _ = _; rw [vals_length]; omega
    clear hat hok hnn hcap hcm HNIL hb0
    go_enter Try.func33, Try.ntmps33
    go_wp2_with (at_builtin; refine wpList_append_own_at _ rfl _ _ 30 rfl w.heap.size 3 i0 _ 1 8 Try.underlying30 hi0 hz0 hz1 hz2 rfl (by decide) _ 0 [] rfl HROW.out ad l.length cap (vals l) rfl HLn.out HNW.out HON.out (by omega) (by unfold maxLen at hlen; omega) (by simp) ?_; intro v' w2 hown2 hg2 _ hat)
    go_ret
    refine ⟨v', rfl, ?_, in_own hown2, HB0.out.grown hg2 HB0.out.size (fun j hj => by cases hj; exact Nat.le_refl _)⟩
    rw [Nat.zero_add, List.nil_append] at hown2
    exact IL.of hown2 HOK.out hfew
theorem IL.vcells {w : World} {ad : Addr} {n c : Nat} {l : List Int} (h : IL w (.slice (some ad) n c) l) : n = l.length ∧ ∀ j u, (vals l)[j]? = some u → w.cell? (ad.add j) = some u := by
  obtain ⟨⟨a, cap, e, _, _, _, h4⟩, _⟩ := id h
  cases e
  refine ⟨rfl, fun j u hu => ?_⟩
  by_cases hne : l = []
  · subst hne; simp [vals] at hu
  · obtain ⟨b, off, e1, _⟩ := h4 hne
    cases e1
    exact h.cells rfl hne j u hu
theorem IL.none_nil {w : World} {n c : Nat} {l : List Int} (h : IL w (.slice none n c) l) : n = 0 ∧ c = 0 ∧ l = [] := by
  obtain ⟨⟨a, cap, e, h1, _, h3, _⟩, _⟩ := h
  cases e
  have := h3 rfl
  subst this
  have : l = [] := List.eq_nil_of_length_eq_zero (by omega)
  subst this
  exact ⟨rfl, rfl, rfl⟩
theorem own_shape {w : World} {B n : Nat} {v : Value} {xs : List Value} (h : w.ownsRow B 3 1 v n xs) : ∃ a n c, v = .slice a n c := by
  rcases h.2 with ⟨e, _⟩ | ⟨g, cp, cur, e, _⟩
  · exact ⟨_, _, _, e⟩
  · exact ⟨_, _, _, e⟩
theorem wf_of {k : Int} (h : I64 k) : (Lit.int .i64 k).wf = true := WalkArith.wf_i64 h
end Go.Proofs.Ytdnpbhijjmlecaa
