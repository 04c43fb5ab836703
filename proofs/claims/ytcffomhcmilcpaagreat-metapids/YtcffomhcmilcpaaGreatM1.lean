/- Lists of brokers, and states, in memory; what asks a list. -/
import Derived.Test.YtcffomhcmilcpaaGreatRows
import Derived.Test.YtcffomhcmilcpaaGreatM0
import Derived.WalkKit
import Derived.WalkSpells
import Derived.WalkLawsBesides
import Derived.Deep.LoopGhost
import Derived.Maps.AppendAt
import Derived.Maps.Range
import Derived.Deep.QuietTactic
import Derived.BigQuiet
namespace Go.Proofs.YtcffomhcmilcpaaGreat
open Go.RowKit Go.Maps
set_option linter.unusedSimpArgs false
set_option linter.unusedVariables false
set_option maxRecDepth 100000

theorem hid {p : Prop} (h : p) : Hid p := h
theorem ret_int {k : IntKind} {a b : Int} (h : a = b) : Ending.returned (.int k a) = .returned (.int k b) := by rw [h]
theorem ret_bool {a b : Bool} (h : a = b) : Ending.returned (.bool a) = .returned (.bool b) := by rw [h]
theorem cell_blk {w : World} {q : Nat} {cs : Array Value} {T : TypeId} {mk : Nat × Nat} (h : w.heap[q]? = some (.cells cs T mk)) (j : Nat) (u : Value) (hu : cs[j]? = some u) : w.cell? ⟨q, j, none⟩ = some u := by
  simp [World.cell?, h, hu]
theorem kept_cell {W W' : World} (hb : Below W.heap.size W W') {p : Addr} {u : Value} (hu : W.cell? p = some u) : W'.cell? p = some u := (World.cell?_of_block (hb.block p.block (World.block_lt_of_cell? W _ hu))).trans hu

/-- A slice of numbers that is there. -/
structure IL (w : World) (v : Value) (l : List Int) : Prop where
  shape : ∃ a cap, v = .slice a l.length cap ∧ l.length ≤ cap ∧ cap ≤ maxLen ∧ (a = none → cap = 0) ∧ (l ≠ [] → ∃ b off, a = some ⟨b, off, none⟩ ∧ b < w.heap.size ∧ ∀ i (h : i < l.length), w.cell? ⟨b, off + i, none⟩ = some (.int .i64 l[i]))
  ok : ∀ x ∈ l, I64 x
  few : l.length ≤ 17592186044415
theorem IL.under {w w' : World} {v : Value} {l : List Int} (h : IL w v l) (hb : Below w.heap.size w w') : IL w' v l := by
  obtain ⟨⟨a, cap, e, h1, h2, h3, h4⟩, h5, h6⟩ := h
  refine ⟨⟨a, cap, e, h1, h2, h3, fun hn => ?_⟩, h5, h6⟩
  obtain ⟨b, off, e1, e2, e3⟩ := h4 hn
  exact ⟨b, off, e1, Nat.lt_of_lt_of_le e2 hb.size, fun i hi => kept_cell hb (e3 i hi)⟩
theorem IL.nil (w : World) : IL w (.slice none 0 0) [] := ⟨⟨none, 0, rfl, Nat.le_refl _, Nat.zero_le _, fun _ => rfl, fun h => absurd rfl h⟩, (fun x hx => by cases hx), by simp⟩
theorem IL.len {w : World} {v : Value} {l : List Int} (h : IL w v l) : l.length ≤ maxLen := by
  have := h.few
  unfold maxLen
  omega

/-- Where a list lies. -/
def In (X : Nat → Prop) (v : Value) (l : List Int) : Prop := l ≠ [] → ∀ b off n c, v = .slice (some ⟨b, off, none⟩) n c → X b
theorem In.mono {X Y : Nat → Prop} {v : Value} {l : List Int} (h : In X v l) (hm : ∀ b, X b → Y b) : In Y v l := fun hn b off n c e => hm b (h hn b off n c e)
theorem In.nil (X : Nat → Prop) (v : Value) : In X v [] := fun h => absurd rfl h
theorem IL.old {w : World} {v : Value} {l : List Int} (h : IL w v l) : In (fun b => b < w.heap.size) v l := by
  intro hn b off n c e
  obtain ⟨⟨a, cap, e1, h1, h2, h3, h4⟩, h5, h6⟩ := h
  obtain ⟨b', off', e2, e3, _⟩ := h4 hn
  subst e2
  rw [e] at e1
  cases e1
  exact e3
theorem IL.off {w w' : World} {v : Value} {l : List Int} {q : Nat} (h : IL w v l) (hq : In (fun b => b ≠ q) v l) (hb : ∀ b, b ≠ q → w'.heap[b]? = w.heap[b]?) (hs : w.heap.size ≤ w'.heap.size) : IL w' v l := by
  obtain ⟨⟨a, cap, rfl, h1, h2, h3, h4⟩, h5, h6⟩ := h
  refine ⟨⟨a, cap, rfl, h1, h2, h3, fun hn => ?_⟩, h5, h6⟩
  obtain ⟨b, off, rfl, e2, e3⟩ := h4 hn
  exact ⟨b, off, rfl, Nat.lt_of_lt_of_le e2 hs, fun i hi => (World.cell?_of_block (a := ⟨b, off + i, none⟩) (hb b (hq hn b off _ _ rfl))).trans (e3 i hi)⟩

/-- A state that is there. -/
def PartM (w : World) (v : Value) (p : Pt) : Prop := ∃ a b c d, v = .agg #[.int .i64 p.id, .int .i64 p.leader, .int .i64 p.epoch, .int .i64 p.ver, a, b, c, d, .int .i64 p.min] ∧ IL w a p.isr ∧ IL w b p.reps ∧ IL w c p.add ∧ IL w d p.rem ∧ I64 p.id ∧ I64 p.leader ∧ I64 p.epoch ∧ I64 p.ver ∧ I64 p.min
theorem PartM.under {w w' : World} {v : Value} {p : Pt} (h : PartM w v p) (hb : Below w.heap.size w w') : PartM w' v p := by
  obtain ⟨a, b, c, d, e, h1, h2, h3, h4, h5⟩ := h
  exact ⟨a, b, c, d, e, h1.under hb, h2.under hb, h3.under hb, h4.under hb, h5⟩
/-- Where its lists lie. -/
def InP (X : Nat → Prop) (v : Value) (p : Pt) : Prop := ∀ i l m ep a b c d n, v = .agg #[i, l, m, ep, a, b, c, d, n] → In X a p.isr ∧ In X b p.reps ∧ In X c p.add ∧ In X d p.rem
theorem InP.mono {X Y : Nat → Prop} {v : Value} {p : Pt} (h : InP X v p) (hm : ∀ b, X b → Y b) : InP Y v p := fun i l m ep a b c d n e => by
  obtain ⟨h1, h2, h3, h4⟩ := h i l m ep a b c d n e
  exact ⟨h1.mono hm, h2.mono hm, h3.mono hm, h4.mono hm⟩
theorem inP_of {X : Nat → Prop} {i l m ep a b c d n : Value} {p : Pt} (h1 : In X a p.isr) (h2 : In X b p.reps) (h3 : In X c p.add) (h4 : In X d p.rem) : InP X (.agg #[i, l, m, ep, a, b, c, d, n]) p := fun i' l' m' ep' a' b' c' d' n' e => by
  cases e
  exact ⟨h1, h2, h3, h4⟩
theorem PartM.off {w w' : World} {v : Value} {p : Pt} {q : Nat} (h : PartM w v p) (hq : InP (fun b => b ≠ q) v p) (hb : ∀ b, b ≠ q → w'.heap[b]? = w.heap[b]?) (hs : w.heap.size ≤ w'.heap.size) : PartM w' v p := by
  obtain ⟨a, b, c, d, rfl, h1, h2, h3, h4, h5⟩ := h
  obtain ⟨g1, g2, g3, g4⟩ := hq _ _ _ _ _ _ _ _ _ rfl
  exact ⟨a, b, c, d, rfl, h1.off g1 hb hs, h2.off g2 hb hs, h3.off g3 hb hs, h4.off g4 hb hs, h5⟩
theorem PartM.old {w : World} {v : Value} {p : Pt} (h : PartM w v p) : InP (fun b => b < w.heap.size) v p := by
  obtain ⟨a, b, c, d, rfl, h1, h2, h3, h4, h5⟩ := h
  exact inP_of h1.old h2.old h3.old h4.old

set_option maxHeartbeats 400000 in
theorem isUpTo_any (n m : Int) (w : World) (hn : I64 n) (hm : I64 m) : Calls Tryz.prog 166 #[.int .i64 n, .int .i64 m] w fun e w' => e = .returned (.bool (upB n m)) ∧ w = w' := by
  unfold I64 at hn hm
  go_enter Tryz.func166, Tryz.ntmps166
  go_wp2
  all_goals
    go_ret
    refine ⟨ret_bool ?_, rfl⟩
    rw [Bool.eq_iff_iff]
    simp [upB]
    try omega
set_option maxHeartbeats 400000 in
theorem isBroker_any (n : Int) (w : World) (hn : I64 n) : Calls Tryz.prog 157 #[.int .i64 n] w fun e w' => e = .returned (.bool (upB n 7)) ∧ w = w' := by
  go_enter Tryz.func157, Tryz.ntmps157
  go_wp2_with fail
  refine (isUpTo_any _ _ _ hn (by unfold I64; omega)).mono ?_
  rintro e w1 ⟨rfl, rfl⟩
  go_wp2_with fail
  go_ret
  exact ⟨rfl, rfl⟩

def idxL (l : List Int) (x : Int) : Int := if x ∈ l then (l.findIdx (· == x) : Int) else -1
set_option maxHeartbeats 1600000 in
theorem index_any {w : World} {v : Value} {l : List Int} (h : IL w v l) (x : Int) (hx : I64 x) : Calls Tryz.prog 188 #[v, .int .i64 x] w fun e w' => (∃ r : Int, e = .returned (.int .i64 r) ∧ (hasB l x = true → 0 ≤ r) ∧ (hasB l x = false → r = -1)) ∧ w = w' := by
  have HI := hid h
  obtain ⟨⟨a, cap, rfl, hcap, hcm, hnn, hat⟩, hok, hfew⟩ := h
  have HA := hid hat
  have HOK := hid hok
  have hlen : l.length ≤ 9223372036854775807 := by unfold maxLen at hcm; omega
  clear hat hok hnn hcap hcm
  go_enter Tryz.func188, Tryz.ntmps188
  go_wp2_with fail
  go_loopg [8] l.length (fun kx s8 wr => ∃ k : Nat, k ≤ l.length ∧ l.length - k ≤ kx ∧ s8 = .int .i64 (k : Int) ∧ Hid (x ∉ l.take k) ∧ wr = w)
  case atStart => exact ⟨0, Nat.zero_le _, by omega, rfl, by show _ ∉ _; simp, rfl⟩
  case round =>
    obtain ⟨k, hk, hkx, rfl, HM, rfl⟩ := hrel
    by_cases hlt : k < l.length
    · obtain ⟨b, off, rfl, hb, hc⟩ := HA.out (by intro e; rw [e] at hlt; simp at hlt)
      have hck := hc k hlt
      have hok := HOK.out l[k] (by simp)
      unfold I64 at hok
      have HT : Hid (l.take (k + 1) = l.take k ++ [l[k]]) := List.take_succ_eq_append_getElem hlt
      have HG : Hid (l[k] ∈ l) := by show _ ∈ _; simp
      have hlt' : (k : Int) < (l.length : Int) := by omega
      clear hc
      by_cases he : x = l[k]
      · have HE := hid he
        clear he
        rw [← HE.out] at hck
        go_wp2_with fail
        go_ret
        exact ⟨⟨_, rfl, fun _ => by omega, fun hf => by
          have := HG.out
          rw [← HE.out] at this
          rw [hasB_iff.2 this] at hf
          cases hf⟩, rfl⟩
      · generalize l[k] = y at *
        go_wp2_with fail
        go_roundg (l.length - (k + 1))
        case measure => omega
        case rel => exact ⟨k + 1, by omega, Nat.le_refl _, by go_num, by show _ ∉ _; rw [HT.out]; simp; exact ⟨HM.out, he⟩, rfl⟩
    · have hlt' : ¬ (k : Int) < (l.length : Int) := by omega
      go_wp2_with fail
      go_ret
      have HN := HM.out
      rw [List.take_of_length_le (by omega)] at HN
      exact ⟨⟨_, rfl, fun ht => absurd (hasB_iff.1 ht) HN, fun _ => rfl⟩, rfl⟩
set_option maxHeartbeats 800000 in
theorem contains_any {w : World} {v : Value} {l : List Int} (h : IL w v l) (x : Int) (hx : I64 x) : Calls Tryz.prog 171 #[v, .int .i64 x] w fun e w' => e = .returned (.bool (hasB l x)) ∧ w = w' := by
  have HC := hid (index_any h x hx)
  obtain ⟨⟨a, cap, rfl, _⟩, _⟩ := h
  generalize hasB l x = B at *
  go_enter Tryz.func171, Tryz.ntmps171
  go_wp2_with fail
  refine HC.out.mono ?_
  rintro e w1 ⟨⟨r, rfl, h1, h2⟩, rfl⟩
  cases B with
  | true =>
    have hr := h1 rfl
    clear h1 h2
    go_wp2_with fail
    go_ret
    exact ⟨ret_bool (by simp [hr]), rfl⟩
  | false =>
    have hr := h2 rfl
    subst hr
    clear h1 h2
    go_wp2_with fail
    go_ret
    exact ⟨rfl, rfl⟩
set_option maxHeartbeats 800000 in
theorem has_any {w : World} {v : Value} {l : List Int} (h : IL w v l) (x : Int) (hx : I64 x) : Calls Tryz.prog 138 #[v, .int .i64 x] w fun e w' => e = .returned (.bool (hasB l x)) ∧ w = w' := by
  have HC := hid (contains_any h x hx)
  obtain ⟨⟨a, cap, rfl, _⟩, _⟩ := h
  generalize hasB l x = B at *
  go_enter Tryz.func138, Tryz.ntmps138
  go_wp2_with fail
  refine HC.out.mono ?_
  rintro e w1 ⟨rfl, rfl⟩
  go_wp2_with fail
  go_ret
  exact ⟨rfl, rfl⟩
set_option maxHeartbeats 800000 in
theorem lacks_any {w : World} {v : Value} {l : List Int} (h : IL w v l) (x : Int) (hx : I64 x) : Calls Tryz.prog 158 #[v, .int .i64 x] w fun e w' => e = .returned (.bool (lackB l x)) ∧ w = w' := by
  have HC := hid (has_any h x hx)
  obtain ⟨⟨a, cap, rfl, _⟩, _⟩ := h
  have HF : Hid (lackB l x = !hasB l x) := rfl
  generalize lackB l x = B' at *
  generalize hasB l x = B at *
  go_enter Tryz.func158, Tryz.ntmps158
  go_wp2_with fail
  refine HC.out.mono ?_
  rintro e w1 ⟨rfl, rfl⟩
  go_wp2_with fail
  go_ret
  exact ⟨by rw [HF.out]; rfl, rfl⟩
end Go.Proofs.YtcffomhcmilcpaaGreat
