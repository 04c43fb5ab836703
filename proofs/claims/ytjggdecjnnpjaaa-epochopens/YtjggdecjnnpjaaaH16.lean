/- pick, same. -/
import Derived.Test.YtjggdecjnnpjaaaH15
import Derived.ProofKit
import Derived.OpenShut
import Derived.ShutString
import Derived.ChangeOld
import Derived.SliceStrings
namespace Go.Proofs.Ytjggdecjnnpjaaa
open Go.RowKit Go.Maps Go.Sort
set_option maxRecDepth 100000
set_option linter.unusedSimpArgs false
set_option linter.unusedVariables false

set_option maxHeartbeats 400000 in
theorem pick_any (c n : Int) (w : World) (h1 : -9223372036854775808 ≤ c) (h2 : c ≤ 9223372036854775807) (hn : 1 ≤ n) (hn2 : n ≤ 5000) :
    Calls Try.prog 16 #[.int .i64 c, .int .i64 n] w fun e w' => e = .returned (.int .i64 (pickI c n)) ∧ w' = w := by
  by_cases hc : c < 0
  · go_enter Try.func16, Try.ntmps16
    go_wp2
    go_ret
    have e1 : -(c + 1).tmod n = (-(c + 1)).tmod n := (neg_tmod c n).symm
    have e2 : (-(c + 1)).tmod n = (-(c + 1)) % n := Int.tmod_eq_emod_of_nonneg (by omega)
    refine ⟨ret_int ?_, rfl⟩
    unfold pickI
    rw [if_pos hc, e1, e2]
  · go_enter Try.func16, Try.ntmps16
    go_wp2
    go_ret
    refine ⟨ret_int ?_, rfl⟩
    unfold pickI
    rw [if_neg (by omega)]
/-- A row of entries as All answers it. -/
def AL (w : World) (v : Value) (l : List (Int × Int)) : Prop :=
  ∃ oa cap, v = .slice oa l.length cap ∧ (0 < l.length → ∃ g, oa = some ⟨g, 0, none⟩ ∧ g < w.heap.size ∧ ∀ (i : Nat) x, l[i]? = some x → w.cell? ⟨g, i * 3, none⟩ = some (.int .i64 x.1) ∧ w.cell? ⟨g, i * 3 + 1, none⟩ = some (.int .i64 x.2) ∧ w.cell? ⟨g, i * 3 + 2, none⟩ = some (.string ⟨#[]⟩))
theorem flatA_at : ∀ (l : List (Int × Int)) (i : Nat) (m : Int × Int), l[i]? = some m → (flatA l)[i * 3]? = some (.int .i64 m.1) ∧ (flatA l)[i * 3 + 1]? = some (.int .i64 m.2) ∧ (flatA l)[i * 3 + 2]? = some (.string ⟨#[]⟩)
  | [], i, m, h => by simp at h
  | y :: r, 0, m, h => by simp at h; subst h; simp [flatA, acells]
  | y :: r, i + 1, m, h => by
    have ih := flatA_at r i m (by simpa using h)
    have e : ∀ j, (flatA (y :: r))[(i + 1) * 3 + j]? = (flatA r)[i * 3 + j]? := fun j => by
      have e1 : (i + 1) * 3 + j = 3 + (i * 3 + j) := by omega
      rw [e1]
      show ([_, _, _] ++ flatA r)[3 + (i * 3 + j)]? = _
      rw [List.getElem?_append_right (by simp)]
      congr 1
      simp
    refine ⟨?_, ?_, ?_⟩
    · have := e 0; simp only [Nat.add_zero] at this; rw [this]; exact ih.1
    · rw [e 1]; exact ih.2.1
    · rw [e 2]; exact ih.2.2
theorem AL.of {w : World} {B : Nat} {v : Value} {l : List (Int × Int)} (h : w.ownsRow B 51 3 v l.length (flatA l)) : AL w v l := by
  obtain ⟨_, ⟨e, h0⟩ | ⟨g, cap, cur, e, hb, hg, hn, hc, hs, ht⟩⟩ := id h
  · exact ⟨none, 0, by rw [e, h0], fun h => by omega⟩
  · refine ⟨some ⟨g, 0, none⟩, cap, e, fun _ => ⟨g, rfl, (Array.getElem?_eq_some_iff.1 hg).1, fun i x hx => ?_⟩⟩
    have hcc := fun j u hu => World.ownsRow.cells h (g := g) (by rw [e]; rfl) j u hu
    obtain ⟨h0, h1, h2⟩ := flatA_at l i x hx
    have k0 := hcc _ _ h0
    have k1 := hcc _ _ h1
    have k2 := hcc _ _ h2
    rw [add_lit0] at k0 k1 k2
    exact ⟨k0, k1, k2⟩
theorem AL.kept {w w1 : World} {v : Value} {l : List (Int × Int)} (h : AL w v l) (hs : w.heap.size ≤ w1.heap.size) (hb : ∀ k, v.ownBlock = some k → k < w.heap.size → w1.heap[k]? = w.heap[k]?) : AL w1 v l := by
  obtain ⟨oa, cap, rfl, h4⟩ := h
  refine ⟨oa, cap, rfl, fun h0 => ?_⟩
  obtain ⟨g, rfl, hg, hc⟩ := h4 h0
  have hg1 := hb g rfl hg
  refine ⟨g, rfl, by omega, fun i x hx => ?_⟩
  obtain ⟨c0, c1, c2⟩ := hc i x hx
  exact ⟨by rw [World.cell?_of_block (a := ⟨g, i * 3, none⟩) hg1]; exact c0, by rw [World.cell?_of_block (a := ⟨g, i * 3 + 1, none⟩) hg1]; exact c1, by rw [World.cell?_of_block (a := ⟨g, i * 3 + 2, none⟩) hg1]; exact c2⟩
theorem AL.under {w w1 : World} {v : Value} {l : List (Int × Int)} (h : AL w v l) (hb : Below w.heap.size w w1) : AL w1 v l := h.kept hb.size (fun k hk hk2 => hb.block k hk2)
theorem AL.at_ {w : World} {g n cap : Nat} {l : List (Int × Int)} (h : AL w (.slice (some ⟨g, 0, none⟩) n cap) l) (i : Nat) (x : Int × Int) (hx : l[i]? = some x) : w.cell? ⟨g, i * 3, none⟩ = some (.int .i64 x.1) ∧ w.cell? ⟨g, i * 3 + 1, none⟩ = some (.int .i64 x.2) ∧ w.cell? ⟨g, i * 3 + 2, none⟩ = some (.string ⟨#[]⟩) := by
  obtain ⟨oa, cap', e, h4⟩ := h
  cases e
  obtain ⟨g', e, _, hc⟩ := h4 (by have := (List.getElem?_eq_some_iff.1 hx).1; omega)
  cases e
  exact hc i x hx
theorem AL.shape {w : World} {v : Value} {l : List (Int × Int)} (h : AL w v l) : ∃ oa cap, v = .slice oa l.length cap ∧ (0 < l.length → ∃ g, oa = some ⟨g, 0, none⟩) := by
  obtain ⟨oa, cap, e, h4⟩ := h
  exact ⟨oa, cap, e, fun h0 => by obtain ⟨g, e, _⟩ := h4 h0; exact ⟨g, e⟩⟩
set_option maxHeartbeats 1000000 in
theorem neq51 (x y : Int × Int) (w : World) : (binOp .neq 51 (.agg #[.int .i64 x.1, .int .i64 x.2, .string ⟨#[]⟩]) (.agg #[.int .i64 y.1, .int .i64 y.2, .string ⟨#[]⟩])).run Try.prog w = .ok (.bool (!decide (x = y))) w := by
  rw [run_neq_struct, run_equalIn_agg w 9999 51 _ _ (by kernel_rfl) (by kernel_rfl)]
  obtain ⟨a, b⟩ := x
  obtain ⟨c, d⟩ := y
  by_cases h1 : a = c <;> by_cases h2 : b = d <;> simp [go_sem, h1, h2]
set_option maxHeartbeats 1600000 in
theorem same_any {w : World} {v1 v2 : Value} {l m : List (Int × Int)} (h1 : AL w v1 l) (h2 : AL w v2 m) (hl : l.length ≤ 201) (hm : m.length ≤ 201) :
    Calls Try.prog 13 #[v1, v2] w fun e w' => e = .returned (.bool (decide (l = m))) ∧ Below w.heap.size w w' := by
  obtain ⟨oa, cap, rfl, hoa⟩ := h1.shape
  obtain ⟨ob, cbp, rfl, hob⟩ := h2.shape
  by_cases he : l.length = m.length
  · have hne : ((l.length : Int) != (m.length : Int)) = false := by simp; omega
    have HL := hid he
    have H1 := hid h1
    have H2 := hid h2
    clear h1 h2 he
    go_enter Try.func13, Try.ntmps13
    go_wp2_with fail
    go_loopg [5] l.length (fun kx s5 wr => ∃ k : Nat, k ≤ l.length ∧ l.length - k ≤ kx ∧ s5 = .int .i64 (k : Int) ∧ Hid (Below w.heap.size w wr ∧ ∀ (i : Nat) x y, i < k → l[i]? = some x → m[i]? = some y → x = y))
    case atStart => exact ⟨0, by omega, by omega, rfl, Below.refl _ _, fun i x y hi => by omega⟩
    case round =>
      obtain ⟨k, hk, hkx, rfl, HB⟩ := hrel
      by_cases hlt : k < l.length
      · have hlt' : (k : Int) < (l.length : Int) := by omega
        have hlm : k < m.length := by have := HL.out; omega
        have hlm' : (k : Int) < (m.length : Int) := by omega
        obtain ⟨ga, rfl⟩ := hoa (by omega)
        obtain ⟨gb, rfl⟩ := hob (by omega)
        have hx : l[k]? = some l[k] := List.getElem?_eq_getElem hlt
        have hy : m[k]? = some m[k] := List.getElem?_eq_getElem hlm
        obtain ⟨a0, a1, a2⟩ := (H1.out.under HB.out.1).at_ k _ hx
        obtain ⟨b0, b1, b2⟩ := (H2.out.under HB.out.1).at_ k _ hy
        have HX := hid hx
        have HY := hid hy
        clear hx hy
        generalize l[k] = x at *
        generalize m[k] = y at *
        by_cases hxy : x = y
        · subst hxy
          have hq : ∀ W : World, (binOp .neq 51 (.agg #[.int .i64 x.1, .int .i64 x.2, .string ⟨#[]⟩]) (.agg #[.int .i64 x.1, .int .i64 x.2, .string ⟨#[]⟩])).run Try.prog W = .ok (.bool false) W := fun W => by rw [neq51]; simp
          go_wp2_with fail
          try go_quiet (fail)
          try go_wp2_with fail
          go_roundg (l.length - (k + 1))
          case measure => omega
          case rel =>
            refine ⟨k + 1, by omega, Nat.le_refl _, by go_num, by first | exact HB.out.1 | exact HB.out.1.drew | exact below_drewN HB.out.1 _, fun i x' y' hi e1 e2 => ?_⟩
            rcases Nat.lt_or_ge i k with h | h
            · exact HB.out.2 i x' y' h e1 e2
            · have e : i = k := by omega
              subst e
              rw [HX.out] at e1
              rw [HY.out] at e2
              cases e1
              cases e2
              rfl
        · have hq : ∀ W : World, (binOp .neq 51 (.agg #[.int .i64 x.1, .int .i64 x.2, .string ⟨#[]⟩]) (.agg #[.int .i64 y.1, .int .i64 y.2, .string ⟨#[]⟩])).run Try.prog W = .ok (.bool true) W := fun W => by rw [neq51]; simp [hxy]
          have HF : Hid (decide (l = m) = false) := by
            refine decide_eq_false (fun e => hxy ?_)
            have h1 := HX.out
            have h2 := HY.out
            rw [e] at h1
            rw [h1] at h2
            cases h2
            rfl
          clear hxy
          go_wp2_with fail
          try go_quiet (fail)
          try go_wp2_with fail
          go_ret
          exact ⟨by rw [HF.out]; rfl, by first | exact HB.out.1 | exact HB.out.1.drew | exact below_drewN HB.out.1 _⟩
      · have hlt' : ¬ (k : Int) < (l.length : Int) := by omega
        have HF : Hid (decide (l = m) = true) := decide_eq_true (take_ext HL.out (fun i x y e1 e2 => HB.out.2 i x y (by have := (List.getElem?_eq_some_iff.1 e1).1; omega) e1 e2))
        go_wp2_with fail
        go_ret
        exact ⟨by rw [HF.out]; rfl, HB.out.1⟩
  · have hne : ((l.length : Int) != (m.length : Int)) = true := by simp; omega
    have HF : Hid (decide (l = m) = false) := decide_eq_false (fun e => he (by rw [e]))
    clear h1 h2 he
    go_enter Try.func13, Try.ntmps13
    go_wp2_with fail
    go_ret
    exact ⟨by rw [HF.out]; rfl, Below.refl _ _⟩

end Go.Proofs.Ytjggdecjnnpjaaa

/- A cache on a new disk; the chapter's example. -/
namespace Go.Proofs.Ytjggdecjnnpjaaa
open Go.RowKit Go.Maps Go.Sort
set_option maxRecDepth 100000
set_option linter.unusedSimpArgs false
set_option linter.unusedVariables false

def fname : ByteArray := ⟨#[101, 112, 111, 99, 104, 115]⟩
theorem fname_name : nameB fname = true := by decide +kernel
theorem fname_size : fname.size ≤ maxLen := by unfold maxLen; decide
theorem eok_nil : EOk [] := ⟨by simp, by simp, by simp⟩
set_option maxHeartbeats 800000 in
theorem opened_any (n : Nat) (h1 : 1 ≤ n) (h2 : n ≤ 16777216) (w : World) :
    Calls Try.prog 15 #[.int .i64 (n : Int)] w fun e w' => ∃ q a, e = .returned (.tuple #[.pointer (some ⟨q, 0, none⟩), .pointer (some ⟨a, 0, none⟩)]) ∧ CF w w' (fun _ => False) q a fname [] n ∧ ∃ B, CD w' B q a fname [] n [] ∧ ∀ k, B k → w.heap.size ≤ k := by
  have HN := hid (newA n w h1 h2)
  have HO : Hid (∀ W S, DiskA W S w.heap.size n [] → Calls Try.prog 11 #[.pointer (some ⟨w.heap.size, 0, none⟩), .string fname] W fun e w' => e = .returned (.tuple #[.pointer (some ⟨W.heap.size, 0, none⟩), .int .i64 0]) ∧ (∃ B, CD w' B W.heap.size w.heap.size fname [] n [] ∧ (∀ k, B k → S k ∨ W.heap.size ≤ k) ∧ (∀ k, S k → B k)) ∧ Below W.heap.size W w') := fun W S hd => by
    have hst : StF fname [] [] := .inl ⟨rfl, rfl⟩
    have ho := hst.open eok_nil
    have := copen_yes hd fname_size (by rw [ho])
    rw [ho] at this
    exact this
  go_enter Try.func15, Try.ntmps15
  go_wp2_with fail
  refine HN.out.mono ?_
  rintro e w1 ⟨rfl, hd1, hb1⟩
  have HB1 := hid hb1
  have H11 := hid (HO.out w1 _ hd1)
  clear HO HN hb1 hd1
  go_wp2_with (go_at_call 11; refine H11.out.mono ?_; rintro e w2 ⟨rfl, hcd, hb2⟩; have HC := hid hcd; have HB2 := hid hb2; clear hcd hb2)
  go_ret2
  obtain ⟨B, g1, g2, g3⟩ := HC.out
  have hs := HB1.out.size
  have hB : ∀ k, B k → w.heap.size ≤ k := fun k hk => by
    rcases g2 k hk with h | h
    · omega
    · omega
  exact ⟨_, _, rfl, ⟨B, ⟨[], g1, .inl ⟨rfl, rfl⟩, eok_nil⟩, fun k hk => ⟨hB k hk, fun h => h⟩, HB1.out.trans (HB2.out.mono hs), fun k hk => hk.elim⟩, B, g1, hB⟩

theorem CF.size {w0 w : World} {X q a name l size} (h : CF w0 w X q a name l size) (hn : name.size ≤ maxLen) (hl : l ≠ []) : Calls Try.prog 23 #[.pointer (some ⟨a, 0, none⟩), .string name] w fun e w' => (∃ n : Nat, 0 < n ∧ n ≤ 16777216 ∧ e = .returned (.int .i64 (n : Int))) ∧ w' = w := by
  obtain ⟨B, ⟨fs, ⟨U, S, v, h1, h2, h3, h4⟩, g2, g3⟩, _⟩ := h
  have hsm := h2.small name.data.toList
  refine (sizeA h2 name hn).mono fun e w' ⟨e1, e2⟩ => ⟨?_, e2⟩
  rcases g2 with ⟨_, h⟩ | h
  · exact absurd h hl
  · refine ⟨_, ?_, hsm, e1⟩
    rw [h]
    have : abytes [⟨name.data.toList, ebytes l, (ebytes l).length⟩] name.data.toList = ebytes l := by unfold abytes alook; simp
    rw [this]
    unfold ebytes
    rw [sealL_length]
    omega
theorem lit3 (w : World) : AL (w.alloc (.cells #[.int .i64 1, .int .i64 0, .string ⟨#[]⟩, .int .i64 5, .int .i64 10, .string ⟨#[]⟩, .int .i64 6, .int .i64 30, .string ⟨#[]⟩] 51)) (.slice (some ⟨w.heap.size, 0, none⟩) 3 3) [(1, 0), (5, 10), (6, 30)] :=
  AL.of (B := 0) ⟨rfl, .inr ⟨w.heap.size, 3, _, rfl, Nat.zero_le _, heap_alloc_new w _, Nat.le_refl _, by unfold maxLen; decide, rfl, rfl⟩⟩
theorem CF.begin' {w0 w : World} {X q a l size} (h : CF w0 w X q a fname l size) (e o : Int) (c : Nat) (l' : List (Int × Int)) (hX : beginW l e o = (c, l')) (hsz : 14 + l'.length * 20 ≤ size) :
    Calls Try.prog 17 #[.pointer (some ⟨q, 0, none⟩), .int .i64 e, .int .i64 o] w fun en w' => en = .returned (.int .i64 (c : Int)) ∧ CF w0 w' X q a fname l' size := by
  have hl := ebytes_length l'
  have := h.begin fname_name fname_size e o (by rw [hX]; simp only; omega)
  rw [hX] at this
  exact this.mono fun en w' ⟨e1, e2⟩ => ⟨e1, e2.1⟩
set_option maxHeartbeats 6400000 in
theorem shown_any (w : World) : Calls Try.prog 6 #[] w fun e w' => e = .returned (.bool true) ∧ Below w.heap.size w w' := by
  have HO := hid (opened_any 1000 (by omega) (by omega) w)
  go_enter Try.func6, Try.ntmps6
  go_wp2_with fail
  refine HO.out.mono ?_
  rintro e w1 ⟨q, a, rfl, hc1, _⟩
  have L1 := hid hc1.last
  have C1 := hid hc1
  clear hc1 HO
  go_wp2_with fail
  refine L1.out.mono ?_
  rintro e w2 ⟨rfl, hb2⟩
  have e0 : lastW [] = -1 := rfl
  rw [e0]
  have B2 := hid ((C1.out.under hb2).begin' 1 0 0 [(1, 0)] (by decide) (by decide))
  clear hb2 L1 C1
  go_wp2_with fail
  refine B2.out.mono ?_
  rintro e w3 ⟨rfl, hc3⟩
  have B3 := hid (hc3.begin' 3 10 0 [(1, 0), (3, 10)] (by decide) (by decide))
  clear hc3 B2
  go_wp2_with fail
  refine B3.out.mono ?_
  rintro e w4 ⟨rfl, hc4⟩
  have B4 := hid (hc4.begin' 2 20 13 [(1, 0), (3, 10)] (by decide) (by decide))
  clear hc4 B3
  go_wp2_with fail
  refine B4.out.mono ?_
  rintro e w5 ⟨rfl, hc5⟩
  have B5 := hid (hc5.begin' 5 10 0 [(1, 0), (5, 10)] (by decide) (by decide))
  clear hc5 B4
  go_wp2_with fail
  refine B5.out.mono ?_
  rintro e w6 ⟨rfl, hc6⟩
  have B6 := hid (hc6.begin' 6 30 0 [(1, 0), (5, 10), (6, 30)] (by decide) (by decide))
  clear hc6 B5
  go_wp2_with fail
  refine B6.out.mono ?_
  rintro e w7 ⟨rfl, hc7⟩
  have HE := hid (hc7.end' 4 40)
  have C7 := hid hc7
  clear hc7 B6
  have e1 : endW [(1, 0), (5, 10), (6, 30)] 4 40 = (1, 10) := by decide
  rw [e1] at HE
  go_wp2_with fail
  refine HE.out.mono ?_
  rintro e w8 ⟨rfl, hb8⟩
  have HA := hid (C7.out.under hb8).all
  have C8 := hid (C7.out.under hb8)
  clear hb8 HE C7
  go_wp2_with fail
  refine HA.out.mono ?_
  rintro e w9 ⟨rv, rfl, hr9, hb9⟩
  have A9 := hid (AL.of hr9)
  have C9 := hid (C8.out.under hb9)
  clear hr9 hb9 HA C8
  have hb9a := (Below.refl w9.heap.size w9).alloc (Nat.le_refl _) (.cells #[.int .i64 1, .int .i64 0, .string ⟨#[]⟩, .int .i64 5, .int .i64 10, .string ⟨#[]⟩, .int .i64 6, .int .i64 30, .string ⟨#[]⟩] 51)
  have C10 := hid (C9.out.under hb9a)
  have HS := hid (same_any (A9.out.under hb9a) (lit3 w9) (by decide) (by decide))
  rw [decide_eq_true rfl] at HS
  clear hb9a C9 A9
  go_wp2_with fail
  refine HS.out.mono ?_
  rintro e w11 ⟨rfl, hb11⟩
  have C11 := hid (C10.out.under hb11)
  have HL := hid C11.out.last
  have e2 : lastW [(1, 0), (5, 10), (6, 30)] = 6 := by decide
  rw [e2] at HL
  clear hb11 HS C10
  go_wp2_with fail
  refine HL.out.mono ?_
  rintro e w12 ⟨rfl, hb12⟩
  have C12 := hid (C11.out.under hb12)
  have HZ := hid (C12.out.size fname_size (by simp))
  have HBf := hid C12.out.below
  clear hb12 HL C11 C12
  go_wp2_with fail
  refine HZ.out.mono ?_
  rintro e w13 ⟨⟨n, hn1, hn2, rfl⟩, rfl⟩
  have hn3 : (0 : Int) < (n : Int) := by omega
  go_wp2_with fail
  go_ret
  exact ⟨rfl, HBf.out⟩

end Go.Proofs.Ytjggdecjnnpjaaa

/- What every statement's text wants of the program. -/
namespace Go.Proofs.Ytjggdecjnnpjaaa
open Go.ChangeShapes Go.WideShapes Go.ChangeAt Go.RowKit
theorem own : ownKnob Try.prog.godebug = none := by kernel_rfl
theorem laidOut : laidOutB Try.prog = true := by kernel_rfl
end Go.Proofs.Ytjggdecjnnpjaaa

