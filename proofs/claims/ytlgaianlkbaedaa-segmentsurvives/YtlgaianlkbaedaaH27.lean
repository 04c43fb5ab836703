/- seek, asked by function 41. -/
import Derived.Test.YtlgaianlkbaedaaH26
namespace Go.Proofs.Ytlgaianlkbaedaa
open Go.RowKit Go.Maps Go.Sort
set_option maxRecDepth 100000
set_option linter.unusedSimpArgs false
set_option linter.unusedVariables false

set_option maxHeartbeats 3200000 in
theorem seek_no_41 {w : World} {B q a base name m ix size fs} (h : SD w B q a base name m ix size fs) (g : Nat) (N : Int) (hg : w.cell? ⟨g, 0, none⟩ = some (.int .i64 N)) (hP : decide (N < (m.base : Int)) = false) :
    Calls Try.prog 39 #[.pointer (some ⟨q, 0, none⟩), .func (.func 41) #[] #[.pointer (some ⟨g, 0, none⟩)]] w fun e w' => e = .returned (.agg #[.int .i64 (m.base : Int), .int .i64 (m.at_ : Int), .int .i64 (m.nth : Int), .string ⟨#[]⟩]) ∧ Below w.heap.size w w' := by
  have hqB : q < w.heap.size := by obtain ⟨U, S, v, h1, h2, h3, h4⟩ := h; exact h1.below q h1.self
  have hgB : g < w.heap.size := World.block_lt_of_cell? w _ hg
  have HSD := hid h
  have HC : Hid (∀ (x : Mk) W, Below w.heap.size w W → Calls Try.prog 41 #[.agg #[.int .i64 (x.base : Int), .int .i64 (x.at_ : Int), .int .i64 (x.nth : Int)], .pointer (some ⟨g, 0, none⟩)] W fun en w' => en = .returned (.bool (decide (N < (x.base : Int)))) ∧ Below W.heap.size W w') := fun x W hb =>
    read1_any x N g W ((World.cell?_of_block (hb.block g hgB)).trans hg)
  have HK0 := hid (Sk.laid w q (.func (.func 41) #[] #[.pointer (some ⟨g, 0, none⟩)]))
  clear h
  go_enter Try.func39, Try.ntmps39
  go_wp2_with fail
  generalize ((w.alloc (.cells #[.pointer (some ⟨q, 0, none⟩)] 28)).alloc (.cells #[.func (.func 41) #[] #[.pointer (some ⟨g, 0, none⟩)]] 85)).alloc (.cells #[.int .i64 0, .int .i64 0, .int .i64 0, .string ⟨#[]⟩] 83) = W0 at *
  obtain ⟨s0, s1⟩ := HK0.out.vars
  obtain ⟨k3, k4, k5⟩ := HSD.out.cs HK0.out.below
  go_region_held3 (fun w' => w'.cell? ⟨w.heap.size, 0, none⟩ = some (.pointer (some ⟨q, 0, none⟩)) ∧ w'.cell? ⟨w.heap.size + 1, 0, none⟩ = some (.func (.func 41) #[] #[.pointer (some ⟨g, 0, none⟩)]) ∧ w'.cell? ⟨q, 3, none⟩ = some (.int .i64 (m.base : Int)) ∧ w'.cell? ⟨q, 4, none⟩ = some (.int .i64 (m.at_ : Int)) ∧ w'.cell? ⟨q, 5, none⟩ = some (.int .i64 (m.nth : Int))) (go_keep)
    (first
    | (go_at_call 41; refine (HC.out m _ (by first | exact HK0.out.below | exact HK0.out.below.drew)).mono ?_; rintro e w1 ⟨rfl, hb1⟩; have HK1 : Hid (Sk w w1 q (.func (.func 41) #[] #[.pointer (some ⟨g, 0, none⟩)]) #[.int .i64 0, .int .i64 0, .int .i64 0, .string ⟨#[]⟩]) := (by first | exact HK0.out.next hb1 | exact (HK0.out.next (Below.refl _ _).drew).next hb1); obtain ⟨s10, s11⟩ := HK1.out.vars; obtain ⟨k13, k14, k15⟩ := HSD.out.cs HK1.out.below; clear hb1; rw [hP])
    | fail)
  clear s0 s1 k3 k4 k5 HK0
  all_goals
    obtain ⟨⟨o0, o1, o2, o3⟩, of⟩ := HK1.out.outs
    go_wp2_with fail
    have HZ := hid (HK1.out.put (.int .i64 (m.base : Int)) (.int .i64 (m.at_ : Int)) (.int .i64 (m.nth : Int)) (.string ⟨#[]⟩))
    generalize (((w1.setCell ⟨w.heap.size + 1 + 1, 0, none⟩ (.int .i64 (m.base : Int))).setCell ⟨w.heap.size + 1 + 1, 1, none⟩ (.int .i64 (m.at_ : Int))).setCell ⟨w.heap.size + 1 + 1, 2, none⟩ (.int .i64 (m.nth : Int))).setCell ⟨w.heap.size + 1 + 1, 3, none⟩ (.string ⟨#[]⟩) = W9 at *
    obtain ⟨⟨p0, p1, p2, p3⟩, _⟩ := HZ.out.outs
    exact bodyPost_ret (v := .agg #[.int .i64 (m.base : Int), .int .i64 (m.at_ : Int), .int .i64 (m.nth : Int), .string ⟨#[]⟩]) (by simp [results, Try.results39, go_sem, p0, p1, p2, p3]) rfl ⟨rfl, HZ.out.below⟩
theorem sk_search_41 {w W : World} {B q a base name m ix size fs c} (h : SD w B q a base name m ix size fs) (g : Nat) (hK : Sk w W q (.func (.func 41) #[] #[.pointer (some ⟨g, 0, none⟩)]) c) (N : Int) (hg : w.cell? ⟨g, 0, none⟩ = some (.int .i64 N)) (hlen : ix.length ≤ 5000) :
    Calls Try.prog 45 #[.int .i64 (ix.length : Int), .func (.func 57) #[] #[.pointer (some ⟨w.heap.size + 1, 0, none⟩), .pointer (some ⟨w.heap.size, 0, none⟩)]] W fun e w' => ∃ r : Nat, r ≤ ix.length ∧ e = .returned (.int .i64 (r : Int)) ∧ (r = 0 ∨ ∃ x, ix[r - 1]? = some x ∧ 0 < r ∧ decide (N < (x.base : Int)) = false) ∧ (∀ x, ix[r]? = some x → decide (N < (x.base : Int)) = true) ∧ Below W.heap.size W w' := by
  obtain ⟨U, S, v, h1, h2, h3, h4⟩ := h
  refine (search_57 ix.length hlen (fun t => match ix[t]? with | some x => decide (N < (x.base : Int)) | none => true) _ _ ?_).mono ?_
  · intro t ht W' hb'
    have hx : ix[t]? = some ix[t] := List.getElem?_eq_getElem ht
    have hK' := hK.next hb'
    have hgB : g < w.heap.size := World.block_lt_of_cell? w _ hg
    rw [hx]
    exact (seek1_41 (h1.under hK'.below) hlen t ix[t] hx _ _ g N hK'.vars.2 hK'.vars.1 ((World.cell?_of_block (hK'.below.block g hgB)).trans hg)).mono fun e w' ⟨e1, e2⟩ => ⟨e1, hb'.trans (e2.mono hb'.size)⟩
  · rintro e w' ⟨r, r1, r2, r3, r4, r5⟩
    refine ⟨r, r1, r2, ?_, fun x hx => ?_, r5⟩
    · rcases Nat.eq_zero_or_pos r with h0 | h0
      · exact .inl h0
      · have hx : ix[r - 1]? = some (ix[r - 1]'(by omega)) := List.getElem?_eq_getElem (by omega)
        refine .inr ⟨_, hx, h0, ?_⟩
        rcases r3 with r3 | r3
        · omega
        · rw [hx] at r3; exact r3
    · rcases r4 with r4 | r4
      · have := (List.getElem?_eq_some_iff.1 hx).1; omega
      · rw [hx] at r4; exact r4
set_option maxHeartbeats 6400000 in
theorem seek_yes_41 {w : World} {B q a base name m ix size fs} (h : SD w B q a base name m ix size fs) (hn : name.size ≤ maxLen) (g : Nat) (N : Int) (hg : w.cell? ⟨g, 0, none⟩ = some (.int .i64 N)) (hP : decide (N < (m.base : Int)) = true) (hbase : base ≤ 1000000000) (hlen : ix.length ≤ 5000) {l : List UInt8} (hl : l = abytes fs name.data.toList) (hix : ∀ x ∈ ix, x.base ≤ 1000000000 ∧ x.at_ ≤ l.length ∧ x.nth ≤ 4096) :
    Calls Try.prog 39 #[.pointer (some ⟨q, 0, none⟩), .func (.func 41) #[] #[.pointer (some ⟨g, 0, none⟩)]] w fun e w' => SeekPost (fun x => decide (N < (x.base : Int))) base ix l e ∧ Below w.heap.size w w' := by
  have hqB : q < w.heap.size := by obtain ⟨U, S, v, h1, h2, h3, h4⟩ := h; exact h1.below q h1.self
  have hgB : g < w.heap.size := World.block_lt_of_cell? w _ hg
  have HSD := hid h
  have HC : Hid (∀ (x : Mk) W, Below w.heap.size w W → Calls Try.prog 41 #[.agg #[.int .i64 (x.base : Int), .int .i64 (x.at_ : Int), .int .i64 (x.nth : Int)], .pointer (some ⟨g, 0, none⟩)] W fun en w' => en = .returned (.bool (decide (N < (x.base : Int)))) ∧ Below W.heap.size W w') := fun x W hb =>
    read1_any x N g W ((World.cell?_of_block (hb.block g hgB)).trans hg)
  have HK0 := hid (Sk.laid w q (.func (.func 41) #[] #[.pointer (some ⟨g, 0, none⟩)]))
  clear h
  have hl16 : l.length ≤ 16777216 := by rw [hl]; exact HSD.out.small
  have HL := hid hl
  clear hl
  go_enter Try.func39, Try.ntmps39
  go_wp2_with fail
  generalize ((w.alloc (.cells #[.pointer (some ⟨q, 0, none⟩)] 28)).alloc (.cells #[.func (.func 41) #[] #[.pointer (some ⟨g, 0, none⟩)]] 85)).alloc (.cells #[.int .i64 0, .int .i64 0, .int .i64 0, .string ⟨#[]⟩] 83) = W0 at *
  obtain ⟨s0, s1⟩ := HK0.out.vars
  obtain ⟨k3, k4, k5⟩ := HSD.out.cs HK0.out.below
  go_region_held3 (fun w' => w'.cell? ⟨w.heap.size, 0, none⟩ = some (.pointer (some ⟨q, 0, none⟩)) ∧ w'.cell? ⟨w.heap.size + 1, 0, none⟩ = some (.func (.func 41) #[] #[.pointer (some ⟨g, 0, none⟩)]) ∧ w'.cell? ⟨q, 3, none⟩ = some (.int .i64 (m.base : Int)) ∧ w'.cell? ⟨q, 4, none⟩ = some (.int .i64 (m.at_ : Int)) ∧ w'.cell? ⟨q, 5, none⟩ = some (.int .i64 (m.nth : Int))) (go_keep)
    (first
    | (go_at_call 41; refine (HC.out m _ (by first | exact HK0.out.below | exact HK0.out.below.drew)).mono ?_; rintro e w1 ⟨rfl, hb1⟩; have HK1 : Hid (Sk w w1 q (.func (.func 41) #[] #[.pointer (some ⟨g, 0, none⟩)]) #[.int .i64 0, .int .i64 0, .int .i64 0, .string ⟨#[]⟩]) := (by first | exact HK0.out.next hb1 | exact (HK0.out.next (Below.refl _ _).drew).next hb1); obtain ⟨s10, s11⟩ := HK1.out.vars; obtain ⟨k13, k14, k15⟩ := HSD.out.cs HK1.out.below; clear hb1; rw [hP])
    | fail)
  clear s0 s1 k3 k4 k5 HK0
  all_goals
    obtain ⟨k20, oa, cap, k26⟩ := HSD.out.cs2 HK1.out.below
    have HK2 := hid (HK1.out.next ((Below.refl _ _).alloc (Nat.le_refl _) (.cells #[.int .i64 (base : Int), .int .i64 0, .int .i64 0] 61)))
    have HFr := hid (heap_alloc_new w1 (.cells #[.int .i64 (base : Int), .int .i64 0, .int .i64 0] 61))
    have hlt := HK1.out.lt
    obtain ⟨s20, s21⟩ := HK2.out.vars
    obtain ⟨_, oa2, cap2, k36⟩ := HSD.out.cs2 HK2.out.below
    have H45 := hid (sk_search_41 HSD.out g HK2.out N hg hlen)
    go_wp2_with fail
    refine H45.out.mono ?_
    rintro e w3 ⟨r, r1, rfl, r3, r4, hb3⟩
    have HK3 := hid (HK2.out.next hb3)
    have HF3 := hid ((hb3.block w1.heap.size (by simp)).trans HFr.out)
    clear hb3 s10 s11 k13 k14 k15 HK1 H45 HFr s20 s21 k36 k20 k26 HK2
    generalize w1.heap.size = p at *
    obtain ⟨s0, s1⟩ := HK3.out.vars
    rcases r3 with r3 | ⟨fr, x1, x2, x3⟩
    · subst r3
      obtain ⟨fr, hfr⟩ : ∃ fr : Mk, fr = ⟨base, 0, 0⟩ := ⟨_, rfl⟩
      have HF4 : Hid (w3.heap[p]? = some (.cells #[.int .i64 (fr.base : Int), .int .i64 (fr.at_ : Int), .int .i64 (fr.nth : Int)] 61)) := by rw [hfr]; exact HF3.out
      have HR : Hid (∃ r : Nat, r ≤ ix.length ∧ (r = 0 ∧ fr = ⟨base, 0, 0⟩ ∨ ix[r - 1]? = some fr ∧ 0 < r ∧ decide (N < (fr.base : Int)) = false) ∧ (∀ x, ix[r]? = some x → decide (N < (x.base : Int)) = true)) := ⟨0, r1, .inl ⟨rfl, hfr⟩, r4⟩
      have hok : fr.base ≤ 1000000000 ∧ fr.at_ ≤ l.length ∧ fr.nth ≤ 4096 := by rw [hfr]; exact ⟨hbase, Nat.zero_le _, Nat.zero_le _⟩
      clear hfr HF3
      have HK4 := HK3
      clear HK3
      have H32 : Hid (∀ W, Below w.heap.size w W → Calls Try.prog 32 #[.pointer (some ⟨q, 0, none⟩)] W fun e w' => e = .returned (.pointer (some ⟨a, 0, none⟩)) ∧ w' = W) := fun W hb => HSD.out.disk hb
      have H50 : Hid (∀ W, Below w.heap.size w W → Calls Try.prog 50 #[.pointer (some ⟨a, 0, none⟩), .string name] W fun e w' => e = .returned (.tuple #[.string (strOf l), .int .i64 (synE fs name : Int)]) ∧ Below W.heap.size W w') := fun W hb => by rw [HL.out]; exact HSD.out.read hb hn
      have kn := HSD.out.name HK4.out.below
      go_wp2_with fail
      go_region_held3 (fun w' => w'.cell? ⟨w.heap.size, 0, none⟩ = some (.pointer (some ⟨q, 0, none⟩)) ∧ w'.cell? ⟨q, 1, none⟩ = some (.string name)) (go_keep)
        (first
        | (go_at_call 32; refine (H32.out _ (by first | exact HK4.out.below | exact HK4.out.below.drew)).mono ?_; rintro e w0 ⟨rfl, rfl⟩)
        | (go_at_call 50; refine (H50.out _ (by first | exact HK4.out.below | exact HK4.out.below.drew | exact HK4.out.below.drew.drew)).mono ?_; rintro e w5 ⟨rfl, hb5⟩; have hb5' : Below w3.heap.size w3 w5 := (by first | exact hb5 | exact (Below.refl _ _).drew.trans hb5 | exact (Below.refl _ _).drew.drew.trans hb5); have HK5 := hid (HK4.out.next hb5'); have HF5 := hid ((hb5'.block p (Array.getElem?_eq_some_iff.1 HF4.out).1).trans HF4.out); have kn5 := HSD.out.name HK5.out.below; obtain ⟨z0, z1⟩ := HK5.out.vars; clear hb5 hb5')
        | fail)
      all_goals
        have q0 := cell_at HF5.out (j := 0) rfl
        have q1 := cell_at HF5.out (j := 1) rfl
        have q2 := cell_at HF5.out (j := 2) rfl
        have hx := extract_drop l fr.at_
        have hsz := strOf_size l
        have hfl : (fr.at_ : Int) ≤ (l.length : Int) := by omega
        have hmin : min (fr.at_ : Int) (l.length : Int) = (fr.at_ : Int) := by omega
        have hpl5 := (Array.getElem?_eq_some_iff.1 HF5.out).1
        have hpn : ¬ p = w5.heap.size := by omega
        have hpn' : ¬ w5.heap.size = p := by omega
        go_wp2_with fail
        go_region_held3 (fun w' => w'.cell? ⟨p, 0, none⟩ = some (.int .i64 (fr.base : Int)) ∧ w'.cell? ⟨p, 1, none⟩ = some (.int .i64 (fr.at_ : Int)) ∧ w'.cell? ⟨p, 2, none⟩ = some (.int .i64 (fr.nth : Int))) (go_keep) (fail)
        all_goals
          go_wp2_with fail
          have hb6 : Below w5.heap.size w5 (w5.alloc (.cells #[.int .i64 (fr.base : Int), .int .i64 (fr.at_ : Int), .int .i64 (fr.nth : Int), .string (strOf (l.drop fr.at_))] 83)).drew := ((Below.refl _ _).alloc (Nat.le_refl _) _).drew
          have HK6 := hid (HK5.out.next hb6)
          have HC6 : Hid ((w5.alloc (.cells #[.int .i64 (fr.base : Int), .int .i64 (fr.at_ : Int), .int .i64 (fr.nth : Int), .string (strOf (l.drop fr.at_))] 83)).drew.heap[w5.heap.size]? = some (.cells #[.int .i64 (fr.base : Int), .int .i64 (fr.at_ : Int), .int .i64 (fr.nth : Int), .string (strOf (l.drop fr.at_))] 83)) := heap_alloc_new _ _
          have hc : w.heap.size + 1 + 1 < w5.heap.size := HK5.out.lt
          clear hb6
          obtain ⟨R, hR⟩ : ∃ R, walkL (fun x => decide (N < (x.base : Int))) (l.length + 1) fr (l.drop fr.at_) = R := ⟨_, rfl⟩
          have HRR := hid hR
          clear hR q0 q1 q2 hx hpl5 hpn hpn' z0 z1 kn5 hmin HK5 HF5
          have hdl : (l.drop fr.at_).length = l.length - fr.at_ := by simp
          go_loopg [12] (l.drop fr.at_).length (fun kx s12 wr => ∃ (m' : Mk) (l' : List UInt8), l'.length ≤ kx ∧ Hid (Sk w wr q (.func (.func 41) #[] #[.pointer (some ⟨g, 0, none⟩)]) #[.int .i64 0, .int .i64 0, .int .i64 0, .string ⟨#[]⟩]) ∧ Hid (wr.heap[w5.heap.size]? = some (.cells #[.int .i64 (m'.base : Int), .int .i64 (m'.at_ : Int), .int .i64 (m'.nth : Int), .string (strOf l')] 83)) ∧ Hid (m'.base ≤ 1000000000 ∧ m'.nth ≤ 4096 ∧ m'.at_ + l'.length = l.length) ∧ Hid (∃ f, l'.length < f ∧ walkL (fun x => decide (N < (x.base : Int))) f m' l' = R))
          case atStart => exact ⟨fr, l.drop fr.at_, Nat.le_refl _, HK6, HC6, ⟨hok.1, hok.2.2, by omega⟩, l.length + 1, by omega, HRR.out⟩
          case round =>
            obtain ⟨m', l', hkx, HK, HCb, HMo, HWk⟩ := hrel
            generalize w5.heap.size = c at *
            obtain ⟨b0, b1, b2, b3⟩ := cells4 HCb.out
            have hcl := (Array.getElem?_eq_some_iff.1 HCb.out).1
            have H42 : Hid (∀ W, Calls Try.prog 42 #[.agg #[.int .i64 (m'.base : Int), .int .i64 (m'.at_ : Int), .int .i64 (m'.nth : Int), .string (strOf l')]] W fun e w' => StepPost m' l' W e w') := fun W => step_any m' ⟨HMo.out.1, by have := HMo.out.2.2; omega, HMo.out.2.1⟩ l' (by have := HMo.out.2.2; omega) W
            clear HK6 HC6
            cases hs : stepL m' l' with
            | none =>
              have HS := hid hs
              clear hs
              have HEND : Hid (R = (m', l')) := walkL_none HS.out HWk.out
              go_wp2_with fail
              refine (H42.out _).mono ?_
              rintro e w6 ⟨hb6, he, _⟩
              obtain rfl := he HS.out
              have hb7 : Below w6.heap.size w6 ((w6.alloc (.cells #[.int .i64 0, .int .i64 0, .int .i64 0, .int .i64 0, .int .i64 0, .slice none 0 0] 34)).alloc (.cells #[.int .i64 (m'.base : Int), .int .i64 (m'.at_ : Int), .int .i64 (m'.nth : Int), .string (strOf l')] 83)) := ((Below.refl _ _).alloc (Nat.le_refl _) _).alloc (by simp) _
              have HK7 := hid ((HK.out.next hb6).next hb7)
              have HC7 := hid ((hb7.block c (Nat.lt_of_lt_of_le hcl hb6.size)).trans ((hb6.block c hcl).trans HCb.out))
              clear hb6 hb7 b0 b1 b2 b3 he
              have HCc := hid (cells4 HC7.out)
              obtain ⟨c0, c1, c2, c3⟩ := HCc.out
              obtain ⟨⟨o0, o1, o2, o3⟩, of⟩ := HK7.out.outs
              have hne1 : ¬ c = w.heap.size + 1 + 1 := by omega
              have hne2 : ¬ w.heap.size + 1 + 1 = c := by omega
              go_wp2_with fail
              have HZ := hid (HK7.out.put (.int .i64 (m'.base : Int)) (.int .i64 (m'.at_ : Int)) (.int .i64 (m'.nth : Int)) (.string (strOf l')))
              generalize (((((w6.alloc (.cells #[.int .i64 0, .int .i64 0, .int .i64 0, .int .i64 0, .int .i64 0, .slice none 0 0] 34)).alloc (.cells #[.int .i64 (m'.base : Int), .int .i64 (m'.at_ : Int), .int .i64 (m'.nth : Int), .string (strOf l')] 83)).setCell ⟨w.heap.size + 1 + 1, 0, none⟩ (.int .i64 (m'.base : Int))).setCell ⟨w.heap.size + 1 + 1, 1, none⟩ (.int .i64 (m'.at_ : Int))).setCell ⟨w.heap.size + 1 + 1, 2, none⟩ (.int .i64 (m'.nth : Int))).setCell ⟨w.heap.size + 1 + 1, 3, none⟩ (.string (strOf l')) = W9 at *
              obtain ⟨⟨p0, p1, p2, p3⟩, _⟩ := HZ.out.outs
              refine bodyPost_ret (v := .agg #[.int .i64 (m'.base : Int), .int .i64 (m'.at_ : Int), .int .i64 (m'.nth : Int), .string (strOf l')]) (by simp [results, Try.results39, go_sem, p0, p1, p2, p3]) rfl ⟨?_, HZ.out.below⟩
              obtain ⟨r, r1, r2, r3⟩ := HR.out
              refine ⟨r, fr, r1, r2, r3, ?_⟩
              rw [HRR.out, HEND.out]
            | some t =>
              obtain ⟨b, m2, l2⟩ := t
              have HS := hid hs
              clear hs
              obtain ⟨hM2, hlt2⟩ := MOk.next (ix := []) (tot := l.length) ⟨HMo.out.1, HMo.out.2.1, HMo.out.2.2, Nat.zero_le _, fun x hx => by cases hx⟩ HS.out
              have HM2 : Hid (m2.base ≤ 1000000000 ∧ m2.nth ≤ 4096 ∧ m2.at_ + l2.length = l.length) := ⟨hM2.base, hM2.nth, hM2.sum⟩
              clear hM2
              cases hP2 : decide (N < (m2.base : Int)) with
              | true =>
                have HEND : Hid (R = (m', l')) := walkL_stop HS.out (by exact hP2) HWk.out
                go_wp2_with fail
                refine (H42.out _).mono ?_
                rintro e w6 ⟨hb6, _, he⟩
                obtain ⟨rv, rfl, hrec, _⟩ := he _ _ _ HS.out
                obtain ⟨ra, rc, rfl, _⟩ := hrec.shape
                clear hrec he
                have hb7 : Below w6.heap.size w6 ((w6.alloc (.cells #[.int .i64 b.base, .int .i64 b.epoch, .int .i64 b.pid, .int .i64 b.pidEpoch, .int .i64 b.seq, .slice ra b.recs.length rc] 34)).alloc (.cells #[.int .i64 (m2.base : Int), .int .i64 (m2.at_ : Int), .int .i64 (m2.nth : Int), .string (strOf l2)] 83)) := ((Below.refl _ _).alloc (Nat.le_refl _) _).alloc (by simp) _
                have hc6 := Nat.lt_of_lt_of_le hcl hb6.size
                have HK7 := hid ((HK.out.next hb6).next hb7)
                have HC7 := hid ((hb7.block c hc6).trans ((hb6.block c hcl).trans HCb.out))
                have HT7 : Hid (((w6.alloc (.cells #[.int .i64 b.base, .int .i64 b.epoch, .int .i64 b.pid, .int .i64 b.pidEpoch, .int .i64 b.seq, .slice ra b.recs.length rc] 34)).alloc (.cells #[.int .i64 (m2.base : Int), .int .i64 (m2.at_ : Int), .int .i64 (m2.nth : Int), .string (strOf l2)] 83)).heap[w6.heap.size + 1]? = some (.cells #[.int .i64 (m2.base : Int), .int .i64 (m2.at_ : Int), .int .i64 (m2.nth : Int), .string (strOf l2)] 83)) := by have h := heap_alloc_new (w6.alloc (.cells #[.int .i64 b.base, .int .i64 b.epoch, .int .i64 b.pid, .int .i64 b.pidEpoch, .int .i64 b.seq, .slice ra b.recs.length rc] 34)) (.cells #[.int .i64 (m2.base : Int), .int .i64 (m2.at_ : Int), .int .i64 (m2.nth : Int), .string (strOf l2)] 83); rw [show (w6.alloc (.cells #[.int .i64 b.base, .int .i64 b.epoch, .int .i64 b.pid, .int .i64 b.pidEpoch, .int .i64 b.seq, .slice ra b.recs.length rc] 34)).heap.size = w6.heap.size + 1 by simp] at h; exact h
                clear hb6 hb7 b0 b1 b2 b3
                obtain ⟨s0, s1⟩ := HK7.out.vars
                obtain ⟨t0, t1, t2, t3⟩ := cells4 HT7.out
                go_wp2_with fail
                refine (HC.out m2 _ HK7.out.below).mono ?_
                rintro e w8 ⟨rfl, hb8⟩
                rw [hP2]
                have HK8 := hid (HK7.out.next hb8)
                have HC8 := hid ((hb8.block c (by simp; omega)).trans HC7.out)
                have HT8 := hid ((hb8.block (w6.heap.size + 1) (by simp)).trans HT7.out)
                clear hb8 HK7 HC7 HT7 s0 s1 t0 t1 t2 t3
                have HCc := hid (cells4 HC8.out)
                obtain ⟨c0, c1, c2, c3⟩ := HCc.out
                obtain ⟨⟨o0, o1, o2, o3⟩, of⟩ := HK8.out.outs
                have hne1 : ¬ c = w.heap.size + 1 + 1 := by omega
                have hne2 : ¬ w.heap.size + 1 + 1 = c := by omega
                go_wp2_with fail
                have HZ := hid (HK8.out.put (.int .i64 (m'.base : Int)) (.int .i64 (m'.at_ : Int)) (.int .i64 (m'.nth : Int)) (.string (strOf l')))
                generalize (((w8.setCell ⟨w.heap.size + 1 + 1, 0, none⟩ (.int .i64 (m'.base : Int))).setCell ⟨w.heap.size + 1 + 1, 1, none⟩ (.int .i64 (m'.at_ : Int))).setCell ⟨w.heap.size + 1 + 1, 2, none⟩ (.int .i64 (m'.nth : Int))).setCell ⟨w.heap.size + 1 + 1, 3, none⟩ (.string (strOf l')) = W9 at *
                obtain ⟨⟨p0, p1, p2, p3⟩, _⟩ := HZ.out.outs
                refine bodyPost_ret (v := .agg #[.int .i64 (m'.base : Int), .int .i64 (m'.at_ : Int), .int .i64 (m'.nth : Int), .string (strOf l')]) (by simp [results, Try.results39, go_sem, p0, p1, p2, p3]) rfl ⟨?_, HZ.out.below⟩
                obtain ⟨r, r1, r2, r3⟩ := HR.out
                refine ⟨r, fr, r1, r2, r3, ?_⟩
                rw [HRR.out, HEND.out]
              | false =>
                have HNX := hid (walkL_go (P := (fun x => decide (N < (x.base : Int)))) HS.out (by exact hP2) hlt2 HWk.out)
                go_wp2_with fail
                refine (H42.out _).mono ?_
                rintro e w6 ⟨hb6, _, he⟩
                obtain ⟨rv, rfl, hrec, _⟩ := he _ _ _ HS.out
                obtain ⟨ra, rc, rfl, _⟩ := hrec.shape
                clear hrec he
                have hb7 : Below w6.heap.size w6 ((w6.alloc (.cells #[.int .i64 b.base, .int .i64 b.epoch, .int .i64 b.pid, .int .i64 b.pidEpoch, .int .i64 b.seq, .slice ra b.recs.length rc] 34)).alloc (.cells #[.int .i64 (m2.base : Int), .int .i64 (m2.at_ : Int), .int .i64 (m2.nth : Int), .string (strOf l2)] 83)) := ((Below.refl _ _).alloc (Nat.le_refl _) _).alloc (by simp) _
                have hc6 := Nat.lt_of_lt_of_le hcl hb6.size
                have HK7 := hid ((HK.out.next hb6).next hb7)
                have HC7 := hid ((hb7.block c hc6).trans ((hb6.block c hcl).trans HCb.out))
                have HT7 : Hid (((w6.alloc (.cells #[.int .i64 b.base, .int .i64 b.epoch, .int .i64 b.pid, .int .i64 b.pidEpoch, .int .i64 b.seq, .slice ra b.recs.length rc] 34)).alloc (.cells #[.int .i64 (m2.base : Int), .int .i64 (m2.at_ : Int), .int .i64 (m2.nth : Int), .string (strOf l2)] 83)).heap[w6.heap.size + 1]? = some (.cells #[.int .i64 (m2.base : Int), .int .i64 (m2.at_ : Int), .int .i64 (m2.nth : Int), .string (strOf l2)] 83)) := by have h := heap_alloc_new (w6.alloc (.cells #[.int .i64 b.base, .int .i64 b.epoch, .int .i64 b.pid, .int .i64 b.pidEpoch, .int .i64 b.seq, .slice ra b.recs.length rc] 34)) (.cells #[.int .i64 (m2.base : Int), .int .i64 (m2.at_ : Int), .int .i64 (m2.nth : Int), .string (strOf l2)] 83); rw [show (w6.alloc (.cells #[.int .i64 b.base, .int .i64 b.epoch, .int .i64 b.pid, .int .i64 b.pidEpoch, .int .i64 b.seq, .slice ra b.recs.length rc] 34)).heap.size = w6.heap.size + 1 by simp] at h; exact h
                clear hb6 hb7 b0 b1 b2 b3
                obtain ⟨s0, s1⟩ := HK7.out.vars
                obtain ⟨t0, t1, t2, t3⟩ := cells4 HT7.out
                go_wp2_with fail
                refine (HC.out m2 _ HK7.out.below).mono ?_
                rintro e w8 ⟨rfl, hb8⟩
                rw [hP2]
                have HK8 := hid (HK7.out.next hb8)
                have HC8 := hid ((hb8.block c (by simp; omega)).trans HC7.out)
                have HT8 := hid ((hb8.block (w6.heap.size + 1) (by simp)).trans HT7.out)
                clear hb8 HK7 HC7 HT7 s0 s1 t0 t1 t2 t3
                obtain ⟨c0, c1, c2, c3⟩ := cells4 HC8.out
                obtain ⟨t0, t1, t2, t3⟩ := cells4 HT8.out
                have f0 := frozen_blk HC8.out 0
                have f1 := frozen_blk HC8.out 1
                have f2 := frozen_blk HC8.out 2
                have f3 := frozen_blk HC8.out 3
                have hn1 : ¬ c = w6.heap.size + 1 := by omega
                have hn2 : ¬ w6.heap.size + 1 = c := by omega
                go_wp2_with fail
                go_roundg l2.length
                case measure => omega
                case rel => exact ⟨m2, l2, Nat.le_refl _, HK8.out.off4 hc _ _ _ _, set_box (set_box (set_box (set_box HC8.out))), HM2, HNX⟩

    · obtain ⟨t, rfl⟩ : ∃ t, r = t + 1 := ⟨r - 1, by omega⟩
      rw [Nat.add_sub_cancel] at x1
      have hr0 : (0 : Int) < ((t + 1 : Nat) : Int) := by omega
      have HR : Hid (∃ r : Nat, r ≤ ix.length ∧ (r = 0 ∧ fr = ⟨base, 0, 0⟩ ∨ ix[r - 1]? = some fr ∧ 0 < r ∧ decide (N < (fr.base : Int)) = false) ∧ (∀ x, ix[r]? = some x → decide (N < (x.base : Int)) = true)) := ⟨t + 1, r1, .inr ⟨by rw [Nat.add_sub_cancel]; exact x1, x2, x3⟩, r4⟩
      have hok := hix fr (List.mem_of_getElem? x1)
      obtain ⟨g2, cap3, y0, y1, y2, y3⟩ := HSD.out.row HK3.out.below t fr x1
      have f0 := frozen_blk HF3.out 0
      have f1 := frozen_blk HF3.out 1
      have f2 := frozen_blk HF3.out 2
      have p0 := cell_at HF3.out (j := 0) rfl
      have p1 := cell_at HF3.out (j := 1) rfl
      have p2 := cell_at HF3.out (j := 2) rfl
      have htl : (t : Int) < (ix.length : Int) := by omega
      go_wp2_with fail
      have HK4 := hid (HK3.out.off3 (p := p) hlt (.int .i64 (fr.base : Int)) (.int .i64 (fr.at_ : Int)) (.int .i64 (fr.nth : Int)))
      have HF4 : Hid ((((w3.setCell ⟨p, 0, none⟩ (.int .i64 (fr.base : Int))).setCell ⟨p, 1, none⟩ (.int .i64 (fr.at_ : Int))).setCell ⟨p, 2, none⟩ (.int .i64 (fr.nth : Int))).heap[p]? = some (.cells #[.int .i64 (fr.base : Int), .int .i64 (fr.at_ : Int), .int .i64 (fr.nth : Int)] 61)) := set_box (set_box (set_box HF3.out))
      clear HK3 HF3 f0 f1 f2 p0 p1 p2 y0 y1 y2 y3 s0 s1
      generalize ((w3.setCell ⟨p, 0, none⟩ (.int .i64 (fr.base : Int))).setCell ⟨p, 1, none⟩ (.int .i64 (fr.at_ : Int))).setCell ⟨p, 2, none⟩ (.int .i64 (fr.nth : Int)) = w4 at *
      obtain ⟨s0, s1⟩ := HK4.out.vars
      have H32 : Hid (∀ W, Below w.heap.size w W → Calls Try.prog 32 #[.pointer (some ⟨q, 0, none⟩)] W fun e w' => e = .returned (.pointer (some ⟨a, 0, none⟩)) ∧ w' = W) := fun W hb => HSD.out.disk hb
      have H50 : Hid (∀ W, Below w.heap.size w W → Calls Try.prog 50 #[.pointer (some ⟨a, 0, none⟩), .string name] W fun e w' => e = .returned (.tuple #[.string (strOf l), .int .i64 (synE fs name : Int)]) ∧ Below W.heap.size W w') := fun W hb => by rw [HL.out]; exact HSD.out.read hb hn
      have kn := HSD.out.name HK4.out.below
      go_wp2_with fail
      go_region_held3 (fun w' => w'.cell? ⟨w.heap.size, 0, none⟩ = some (.pointer (some ⟨q, 0, none⟩)) ∧ w'.cell? ⟨q, 1, none⟩ = some (.string name)) (go_keep)
        (first
        | (go_at_call 32; refine (H32.out _ (by first | exact HK4.out.below | exact HK4.out.below.drew)).mono ?_; rintro e w0 ⟨rfl, rfl⟩)
        | (go_at_call 50; refine (H50.out _ (by first | exact HK4.out.below | exact HK4.out.below.drew | exact HK4.out.below.drew.drew)).mono ?_; rintro e w5 ⟨rfl, hb5⟩; have hb5' : Below w4.heap.size w4 w5 := (by first | exact hb5 | exact (Below.refl _ _).drew.trans hb5 | exact (Below.refl _ _).drew.drew.trans hb5); have HK5 := hid (HK4.out.next hb5'); have HF5 := hid ((hb5'.block p (Array.getElem?_eq_some_iff.1 HF4.out).1).trans HF4.out); have kn5 := HSD.out.name HK5.out.below; obtain ⟨z0, z1⟩ := HK5.out.vars; clear hb5 hb5')
        | fail)
      all_goals
        have q0 := cell_at HF5.out (j := 0) rfl
        have q1 := cell_at HF5.out (j := 1) rfl
        have q2 := cell_at HF5.out (j := 2) rfl
        have hx := extract_drop l fr.at_
        have hsz := strOf_size l
        have hfl : (fr.at_ : Int) ≤ (l.length : Int) := by omega
        have hmin : min (fr.at_ : Int) (l.length : Int) = (fr.at_ : Int) := by omega
        have hpl5 := (Array.getElem?_eq_some_iff.1 HF5.out).1
        have hpn : ¬ p = w5.heap.size := by omega
        have hpn' : ¬ w5.heap.size = p := by omega
        go_wp2_with fail
        go_region_held3 (fun w' => w'.cell? ⟨p, 0, none⟩ = some (.int .i64 (fr.base : Int)) ∧ w'.cell? ⟨p, 1, none⟩ = some (.int .i64 (fr.at_ : Int)) ∧ w'.cell? ⟨p, 2, none⟩ = some (.int .i64 (fr.nth : Int))) (go_keep) (fail)
        all_goals
          go_wp2_with fail
          have hb6 : Below w5.heap.size w5 (w5.alloc (.cells #[.int .i64 (fr.base : Int), .int .i64 (fr.at_ : Int), .int .i64 (fr.nth : Int), .string (strOf (l.drop fr.at_))] 83)).drew := ((Below.refl _ _).alloc (Nat.le_refl _) _).drew
          have HK6 := hid (HK5.out.next hb6)
          have HC6 : Hid ((w5.alloc (.cells #[.int .i64 (fr.base : Int), .int .i64 (fr.at_ : Int), .int .i64 (fr.nth : Int), .string (strOf (l.drop fr.at_))] 83)).drew.heap[w5.heap.size]? = some (.cells #[.int .i64 (fr.base : Int), .int .i64 (fr.at_ : Int), .int .i64 (fr.nth : Int), .string (strOf (l.drop fr.at_))] 83)) := heap_alloc_new _ _
          have hc : w.heap.size + 1 + 1 < w5.heap.size := HK5.out.lt
          clear hb6
          obtain ⟨R, hR⟩ : ∃ R, walkL (fun x => decide (N < (x.base : Int))) (l.length + 1) fr (l.drop fr.at_) = R := ⟨_, rfl⟩
          have HRR := hid hR
          clear hR q0 q1 q2 hx hpl5 hpn hpn' z0 z1 kn5 hmin HK5 HF5
          have hdl : (l.drop fr.at_).length = l.length - fr.at_ := by simp
          go_loopg [12] (l.drop fr.at_).length (fun kx s12 wr => ∃ (m' : Mk) (l' : List UInt8), l'.length ≤ kx ∧ Hid (Sk w wr q (.func (.func 41) #[] #[.pointer (some ⟨g, 0, none⟩)]) #[.int .i64 0, .int .i64 0, .int .i64 0, .string ⟨#[]⟩]) ∧ Hid (wr.heap[w5.heap.size]? = some (.cells #[.int .i64 (m'.base : Int), .int .i64 (m'.at_ : Int), .int .i64 (m'.nth : Int), .string (strOf l')] 83)) ∧ Hid (m'.base ≤ 1000000000 ∧ m'.nth ≤ 4096 ∧ m'.at_ + l'.length = l.length) ∧ Hid (∃ f, l'.length < f ∧ walkL (fun x => decide (N < (x.base : Int))) f m' l' = R))
          case atStart => exact ⟨fr, l.drop fr.at_, Nat.le_refl _, HK6, HC6, ⟨hok.1, hok.2.2, by omega⟩, l.length + 1, by omega, HRR.out⟩
          case round =>
            obtain ⟨m', l', hkx, HK, HCb, HMo, HWk⟩ := hrel
            generalize w5.heap.size = c at *
            obtain ⟨b0, b1, b2, b3⟩ := cells4 HCb.out
            have hcl := (Array.getElem?_eq_some_iff.1 HCb.out).1
            have H42 : Hid (∀ W, Calls Try.prog 42 #[.agg #[.int .i64 (m'.base : Int), .int .i64 (m'.at_ : Int), .int .i64 (m'.nth : Int), .string (strOf l')]] W fun e w' => StepPost m' l' W e w') := fun W => step_any m' ⟨HMo.out.1, by have := HMo.out.2.2; omega, HMo.out.2.1⟩ l' (by have := HMo.out.2.2; omega) W
            clear HK6 HC6
            cases hs : stepL m' l' with
            | none =>
              have HS := hid hs
              clear hs
              have HEND : Hid (R = (m', l')) := walkL_none HS.out HWk.out
              go_wp2_with fail
              refine (H42.out _).mono ?_
              rintro e w6 ⟨hb6, he, _⟩
              obtain rfl := he HS.out
              have hb7 : Below w6.heap.size w6 ((w6.alloc (.cells #[.int .i64 0, .int .i64 0, .int .i64 0, .int .i64 0, .int .i64 0, .slice none 0 0] 34)).alloc (.cells #[.int .i64 (m'.base : Int), .int .i64 (m'.at_ : Int), .int .i64 (m'.nth : Int), .string (strOf l')] 83)) := ((Below.refl _ _).alloc (Nat.le_refl _) _).alloc (by simp) _
              have HK7 := hid ((HK.out.next hb6).next hb7)
              have HC7 := hid ((hb7.block c (Nat.lt_of_lt_of_le hcl hb6.size)).trans ((hb6.block c hcl).trans HCb.out))
              clear hb6 hb7 b0 b1 b2 b3 he
              have HCc := hid (cells4 HC7.out)
              obtain ⟨c0, c1, c2, c3⟩ := HCc.out
              obtain ⟨⟨o0, o1, o2, o3⟩, of⟩ := HK7.out.outs
              have hne1 : ¬ c = w.heap.size + 1 + 1 := by omega
              have hne2 : ¬ w.heap.size + 1 + 1 = c := by omega
              go_wp2_with fail
              have HZ := hid (HK7.out.put (.int .i64 (m'.base : Int)) (.int .i64 (m'.at_ : Int)) (.int .i64 (m'.nth : Int)) (.string (strOf l')))
              generalize (((((w6.alloc (.cells #[.int .i64 0, .int .i64 0, .int .i64 0, .int .i64 0, .int .i64 0, .slice none 0 0] 34)).alloc (.cells #[.int .i64 (m'.base : Int), .int .i64 (m'.at_ : Int), .int .i64 (m'.nth : Int), .string (strOf l')] 83)).setCell ⟨w.heap.size + 1 + 1, 0, none⟩ (.int .i64 (m'.base : Int))).setCell ⟨w.heap.size + 1 + 1, 1, none⟩ (.int .i64 (m'.at_ : Int))).setCell ⟨w.heap.size + 1 + 1, 2, none⟩ (.int .i64 (m'.nth : Int))).setCell ⟨w.heap.size + 1 + 1, 3, none⟩ (.string (strOf l')) = W9 at *
              obtain ⟨⟨p0, p1, p2, p3⟩, _⟩ := HZ.out.outs
              refine bodyPost_ret (v := .agg #[.int .i64 (m'.base : Int), .int .i64 (m'.at_ : Int), .int .i64 (m'.nth : Int), .string (strOf l')]) (by simp [results, Try.results39, go_sem, p0, p1, p2, p3]) rfl ⟨?_, HZ.out.below⟩
              obtain ⟨r, r1, r2, r3⟩ := HR.out
              refine ⟨r, fr, r1, r2, r3, ?_⟩
              rw [HRR.out, HEND.out]
            | some t =>
              obtain ⟨b, m2, l2⟩ := t
              have HS := hid hs
              clear hs
              obtain ⟨hM2, hlt2⟩ := MOk.next (ix := []) (tot := l.length) ⟨HMo.out.1, HMo.out.2.1, HMo.out.2.2, Nat.zero_le _, fun x hx => by cases hx⟩ HS.out
              have HM2 : Hid (m2.base ≤ 1000000000 ∧ m2.nth ≤ 4096 ∧ m2.at_ + l2.length = l.length) := ⟨hM2.base, hM2.nth, hM2.sum⟩
              clear hM2
              cases hP2 : decide (N < (m2.base : Int)) with
              | true =>
                have HEND : Hid (R = (m', l')) := walkL_stop HS.out (by exact hP2) HWk.out
                go_wp2_with fail
                refine (H42.out _).mono ?_
                rintro e w6 ⟨hb6, _, he⟩
                obtain ⟨rv, rfl, hrec, _⟩ := he _ _ _ HS.out
                obtain ⟨ra, rc, rfl, _⟩ := hrec.shape
                clear hrec he
                have hb7 : Below w6.heap.size w6 ((w6.alloc (.cells #[.int .i64 b.base, .int .i64 b.epoch, .int .i64 b.pid, .int .i64 b.pidEpoch, .int .i64 b.seq, .slice ra b.recs.length rc] 34)).alloc (.cells #[.int .i64 (m2.base : Int), .int .i64 (m2.at_ : Int), .int .i64 (m2.nth : Int), .string (strOf l2)] 83)) := ((Below.refl _ _).alloc (Nat.le_refl _) _).alloc (by simp) _
                have hc6 := Nat.lt_of_lt_of_le hcl hb6.size
                have HK7 := hid ((HK.out.next hb6).next hb7)
                have HC7 := hid ((hb7.block c hc6).trans ((hb6.block c hcl).trans HCb.out))
                have HT7 : Hid (((w6.alloc (.cells #[.int .i64 b.base, .int .i64 b.epoch, .int .i64 b.pid, .int .i64 b.pidEpoch, .int .i64 b.seq, .slice ra b.recs.length rc] 34)).alloc (.cells #[.int .i64 (m2.base : Int), .int .i64 (m2.at_ : Int), .int .i64 (m2.nth : Int), .string (strOf l2)] 83)).heap[w6.heap.size + 1]? = some (.cells #[.int .i64 (m2.base : Int), .int .i64 (m2.at_ : Int), .int .i64 (m2.nth : Int), .string (strOf l2)] 83)) := by have h := heap_alloc_new (w6.alloc (.cells #[.int .i64 b.base, .int .i64 b.epoch, .int .i64 b.pid, .int .i64 b.pidEpoch, .int .i64 b.seq, .slice ra b.recs.length rc] 34)) (.cells #[.int .i64 (m2.base : Int), .int .i64 (m2.at_ : Int), .int .i64 (m2.nth : Int), .string (strOf l2)] 83); rw [show (w6.alloc (.cells #[.int .i64 b.base, .int .i64 b.epoch, .int .i64 b.pid, .int .i64 b.pidEpoch, .int .i64 b.seq, .slice ra b.recs.length rc] 34)).heap.size = w6.heap.size + 1 by simp] at h; exact h
                clear hb6 hb7 b0 b1 b2 b3
                obtain ⟨s0, s1⟩ := HK7.out.vars
                obtain ⟨t0, t1, t2, t3⟩ := cells4 HT7.out
                go_wp2_with fail
                refine (HC.out m2 _ HK7.out.below).mono ?_
                rintro e w8 ⟨rfl, hb8⟩
                rw [hP2]
                have HK8 := hid (HK7.out.next hb8)
                have HC8 := hid ((hb8.block c (by simp; omega)).trans HC7.out)
                have HT8 := hid ((hb8.block (w6.heap.size + 1) (by simp)).trans HT7.out)
                clear hb8 HK7 HC7 HT7 s0 s1 t0 t1 t2 t3
                have HCc := hid (cells4 HC8.out)
                obtain ⟨c0, c1, c2, c3⟩ := HCc.out
                obtain ⟨⟨o0, o1, o2, o3⟩, of⟩ := HK8.out.outs
                have hne1 : ¬ c = w.heap.size + 1 + 1 := by omega
                have hne2 : ¬ w.heap.size + 1 + 1 = c := by omega
                go_wp2_with fail
                have HZ := hid (HK8.out.put (.int .i64 (m'.base : Int)) (.int .i64 (m'.at_ : Int)) (.int .i64 (m'.nth : Int)) (.string (strOf l')))
                generalize (((w8.setCell ⟨w.heap.size + 1 + 1, 0, none⟩ (.int .i64 (m'.base : Int))).setCell ⟨w.heap.size + 1 + 1, 1, none⟩ (.int .i64 (m'.at_ : Int))).setCell ⟨w.heap.size + 1 + 1, 2, none⟩ (.int .i64 (m'.nth : Int))).setCell ⟨w.heap.size + 1 + 1, 3, none⟩ (.string (strOf l')) = W9 at *
                obtain ⟨⟨p0, p1, p2, p3⟩, _⟩ := HZ.out.outs
                refine bodyPost_ret (v := .agg #[.int .i64 (m'.base : Int), .int .i64 (m'.at_ : Int), .int .i64 (m'.nth : Int), .string (strOf l')]) (by simp [results, Try.results39, go_sem, p0, p1, p2, p3]) rfl ⟨?_, HZ.out.below⟩
                obtain ⟨r, r1, r2, r3⟩ := HR.out
                refine ⟨r, fr, r1, r2, r3, ?_⟩
                rw [HRR.out, HEND.out]
              | false =>
                have HNX := hid (walkL_go (P := (fun x => decide (N < (x.base : Int)))) HS.out (by exact hP2) hlt2 HWk.out)
                go_wp2_with fail
                refine (H42.out _).mono ?_
                rintro e w6 ⟨hb6, _, he⟩
                obtain ⟨rv, rfl, hrec, _⟩ := he _ _ _ HS.out
                obtain ⟨ra, rc, rfl, _⟩ := hrec.shape
                clear hrec he
                have hb7 : Below w6.heap.size w6 ((w6.alloc (.cells #[.int .i64 b.base, .int .i64 b.epoch, .int .i64 b.pid, .int .i64 b.pidEpoch, .int .i64 b.seq, .slice ra b.recs.length rc] 34)).alloc (.cells #[.int .i64 (m2.base : Int), .int .i64 (m2.at_ : Int), .int .i64 (m2.nth : Int), .string (strOf l2)] 83)) := ((Below.refl _ _).alloc (Nat.le_refl _) _).alloc (by simp) _
                have hc6 := Nat.lt_of_lt_of_le hcl hb6.size
                have HK7 := hid ((HK.out.next hb6).next hb7)
                have HC7 := hid ((hb7.block c hc6).trans ((hb6.block c hcl).trans HCb.out))
                have HT7 : Hid (((w6.alloc (.cells #[.int .i64 b.base, .int .i64 b.epoch, .int .i64 b.pid, .int .i64 b.pidEpoch, .int .i64 b.seq, .slice ra b.recs.length rc] 34)).alloc (.cells #[.int .i64 (m2.base : Int), .int .i64 (m2.at_ : Int), .int .i64 (m2.nth : Int), .string (strOf l2)] 83)).heap[w6.heap.size + 1]? = some (.cells #[.int .i64 (m2.base : Int), .int .i64 (m2.at_ : Int), .int .i64 (m2.nth : Int), .string (strOf l2)] 83)) := by have h := heap_alloc_new (w6.alloc (.cells #[.int .i64 b.base, .int .i64 b.epoch, .int .i64 b.pid, .int .i64 b.pidEpoch, .int .i64 b.seq, .slice ra b.recs.length rc] 34)) (.cells #[.int .i64 (m2.base : Int), .int .i64 (m2.at_ : Int), .int .i64 (m2.nth : Int), .string (strOf l2)] 83); rw [show (w6.alloc (.cells #[.int .i64 b.base, .int .i64 b.epoch, .int .i64 b.pid, .int .i64 b.pidEpoch, .int .i64 b.seq, .slice ra b.recs.length rc] 34)).heap.size = w6.heap.size + 1 by simp] at h; exact h
                clear hb6 hb7 b0 b1 b2 b3
                obtain ⟨s0, s1⟩ := HK7.out.vars
                obtain ⟨t0, t1, t2, t3⟩ := cells4 HT7.out
                go_wp2_with fail
                refine (HC.out m2 _ HK7.out.below).mono ?_
                rintro e w8 ⟨rfl, hb8⟩
                rw [hP2]
                have HK8 := hid (HK7.out.next hb8)
                have HC8 := hid ((hb8.block c (by simp; omega)).trans HC7.out)
                have HT8 := hid ((hb8.block (w6.heap.size + 1) (by simp)).trans HT7.out)
                clear hb8 HK7 HC7 HT7 s0 s1 t0 t1 t2 t3
                obtain ⟨c0, c1, c2, c3⟩ := cells4 HC8.out
                obtain ⟨t0, t1, t2, t3⟩ := cells4 HT8.out
                have f0 := frozen_blk HC8.out 0
                have f1 := frozen_blk HC8.out 1
                have f2 := frozen_blk HC8.out 2
                have f3 := frozen_blk HC8.out 3
                have hn1 : ¬ c = w6.heap.size + 1 := by omega
                have hn2 : ¬ w6.heap.size + 1 = c := by omega
                go_wp2_with fail
                go_roundg l2.length
                case measure => omega
                case rel => exact ⟨m2, l2, Nat.le_refl _, HK8.out.off4 hc _ _ _ _, set_box (set_box (set_box (set_box HC8.out))), HM2, HNX⟩


end Go.Proofs.Ytlgaianlkbaedaa

