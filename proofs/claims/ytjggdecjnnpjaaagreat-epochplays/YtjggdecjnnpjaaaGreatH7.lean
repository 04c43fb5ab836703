/- Where the first entry stands that is so. -/
import Derived.Test.YtjggdecjnnpjaaaGreatH6
namespace Go.Proofs.YtjggdecjnnpjaaaGreat
open Go.RowKit Go.Maps Go.Sort
set_option maxRecDepth 100000
set_option linter.unusedSimpArgs false
set_option linter.unusedVariables false


set_option maxHeartbeats 3200000 in
theorem search_50 {w : World} (n : Nat) (hn : n ≤ 5000) (p : Nat → Bool) (c1 c2 : Value) (HF : Hid (∀ t, t < n → ∀ W, Below w.heap.size w W → Calls Tryz.prog 50 #[.int .i64 (t : Int), c1, c2] W fun e w' => e = .returned (.bool (p t)) ∧ Below w.heap.size w w')) :
    Calls Tryz.prog 49 #[.int .i64 (n : Int), .func (.func 50) #[] #[c1, c2]] w fun e w' => ∃ r : Nat, r ≤ n ∧ e = .returned (.int .i64 (r : Int)) ∧ (r = 0 ∨ p (r - 1) = false) ∧ (r = n ∨ p r = true) ∧ Below w.heap.size w w' := by
  go_enter Tryz.func49, Tryz.ntmps49
  go_wp2_with fail
  go_loopg [5, 6] n (fun kx s5 s6 wr => ∃ (i j : Nat), i ≤ j ∧ j ≤ n ∧ j - i ≤ kx ∧ s5 = .int .i64 (i : Int) ∧ s6 = .int .i64 (j : Int) ∧ Hid ((i = 0 ∨ p (i - 1) = false) ∧ (j = n ∨ p j = true) ∧ Below w.heap.size w wr))
  case atStart => exact ⟨0, n, by omega, by omega, by omega, rfl, rfl, .inl rfl, .inl rfl, Below.refl _ _⟩
  case round =>
    obtain ⟨i, j, hij, hjn, hkx, rfl, rfl, HI⟩ := hrel
    by_cases hlt : i < j
    · have hlt' : (i : Int) < (j : Int) := by omega
      obtain ⟨t, ht⟩ : ∃ t : Nat, ((i : Int) + (j : Int)) / 2 = (t : Int) := ⟨(i + j) / 2, by omega⟩
      have ht1 : i ≤ t := by omega
      have ht2 : t < j := by omega
      have HC := hid (HF.out t (by omega) wr HI.out.2.2)
      have HT := hid ht
      clear ht
      go_wp2_with fail
      rw [HT.out]
      clear HT
      cases hp : p t with
      | true =>
        rw [hp] at HC
        refine HC.out.mono ?_
        rintro e w4 ⟨rfl, hb4⟩
        go_wp2_with fail
        go_roundg (t - i)
        case measure => omega
        case rel => exact ⟨i, t, ht1, by omega, Nat.le_refl _, rfl, rfl, HI.out.1, .inr hp, hb4⟩
      | false =>
        rw [hp] at HC
        refine HC.out.mono ?_
        rintro e w4 ⟨rfl, hb4⟩
        go_wp2_with fail
        go_roundg (j - (t + 1))
        case measure => omega
        case rel => exact ⟨t + 1, j, by omega, hjn, Nat.le_refl _, by go_num, rfl, .inr (by simpa using hp), HI.out.2.1, hb4⟩
    · have hlt' : ¬ (i : Int) < (j : Int) := by omega
      go_wp2_with fail
      go_ret
      have e : j = i := by omega
      subst e
      exact ⟨j, hjn, rfl, HI.out⟩

set_option maxHeartbeats 1600000 in
theorem first31 {w : World} {U q a name v} {l : List (Int × Int)} (h : CacheM w U q a name v l) (hlen : l.length ≤ 200) (g : Nat) (N : Int) (hg : w.cell? ⟨g, 0, none⟩ = some (.int .i64 N)) :
    Calls Tryz.prog 31 #[.pointer (some ⟨q, 0, none⟩), .func (.func 32) #[] #[.pointer (some ⟨g, 0, none⟩)]] w fun en w' => (∃ r : Nat, en = .returned (.int .i64 (r : Int)) ∧ FoundAt l (fun x => decide (N ≤ x.2)) r) ∧ Below w.heap.size w w' := by
  have hgw := World.block_lt_of_cell? w _ hg
  have HB := hid (((Below.refl w.heap.size w).alloc (Nat.le_refl _) (.cells #[.pointer (some ⟨q, 0, none⟩)] 25)).alloc (by simp) (.cells #[.func (.func 32) #[] #[.pointer (some ⟨g, 0, none⟩)]] 70))
  have z1 : (w.alloc (.cells #[.pointer (some ⟨q, 0, none⟩)] 25)).heap.size = w.heap.size + 1 := by simp
  have HE1 : Hid (((w.alloc (.cells #[.pointer (some ⟨q, 0, none⟩)] 25)).alloc (.cells #[.func (.func 32) #[] #[.pointer (some ⟨g, 0, none⟩)]] 70)).heap[w.heap.size]? = some (.cells #[.pointer (some ⟨q, 0, none⟩)] 25)) := by
    show _ = _
    rw [Below.heap_alloc _ _ _ (by omega)]
    exact heap_alloc_new _ _
  have HE2 := hid (heap_alloc_new (w.alloc (.cells #[.pointer (some ⟨q, 0, none⟩)] 25)) (.cells #[.func (.func 32) #[] #[.pointer (some ⟨g, 0, none⟩)]] 70))
  rw [z1] at HE2
  have HM := hid (h.under HB.out)
  have HG := hid ((World.cell?_of_block (HB.out.block g hgw)).trans hg)
  obtain ⟨oa, cap, rfl, hcap, hcm, hnn, hoa⟩ := h.ents.shape
  clear h hg z1 hoa
  have e1 := cell_at HE1.out (j := 0) rfl
  have e2 := cell_at HE2.out (j := 0) rfl
  obtain ⟨k0, k1, k2⟩ := HM.out.c
  go_enter Tryz.func31, Tryz.ntmps31
  go_wp2_with fail
  generalize (w.alloc (.cells #[.pointer (some ⟨q, 0, none⟩)] 25)).alloc (.cells #[.func (.func 32) #[] #[.pointer (some ⟨g, 0, none⟩)]] 70) = W at *
  have HS : Hid (∀ W', Below W.heap.size W W' → Calls Tryz.prog 49 #[.int .i64 (l.length : Int), .func (.func 50) #[] #[.pointer (some ⟨w.heap.size + 1, 0, none⟩), .pointer (some ⟨w.heap.size, 0, none⟩)]] W' fun en w' => (∃ r : Nat, en = .returned (.int .i64 (r : Int)) ∧ FoundAt l (fun x => decide (N ≤ x.2)) r) ∧ Below w.heap.size w w') := fun W' hW' => by
    have hws := HB.out.size
    refine (search_50 l.length (by omega) (fun t => match l[t]? with | some x => decide (N ≤ x.2) | none => true) _ _ ?_).mono ?_
    · intro t ht W2 hb2
      have hx : l[t]? = some l[t] := List.getElem?_eq_getElem ht
      rw [hx]
      have hb3 := hW'.trans (hb2.mono hW'.size)
      have up : ∀ {p : Addr} {u : Value}, W.cell? p = some u → W2.cell? p = some u := fun {p} {u} hu => (World.cell?_of_block (hb3.block p.block (World.block_lt_of_cell? W _ hu))).trans hu
      exact (one31 (HM.out.under hb3) hlen t l[t] hx (w.heap.size + 1) w.heap.size g N (up e2) (up e1) (up HG.out)).mono fun e w' ⟨e1, e2⟩ => ⟨e1, hb2.trans (e2.mono hb2.size)⟩
    · rintro e w' ⟨r, r1, r2, r3, r4, r5⟩
      refine ⟨⟨r, r2, r1, ?_, ?_⟩, HB.out.trans ((hW'.trans (r5.mono hW'.size)).mono hws)⟩
      · rcases r3 with r3 | r3
        · exact .inl r3
        · refine .inr (fun x hx => ?_)
          rw [hx] at r3
          exact r3
      · rcases r4 with r4 | r4
        · exact .inl r4
        · refine .inr (fun x hx => ?_)
          rw [hx] at r4
          exact r4
  try go_quiet (fail)
  try go_wp2_with fail
  refine (HS.out _ (by first | exact Below.refl _ _ | exact (Below.refl _ _).drew | exact (Below.refl _ _).drew.drew)).mono ?_
  rintro e w1 ⟨⟨r, rfl, hr⟩, hb1⟩
  have HR := hid hr
  clear hr
  go_wp2_with fail
  go_ret
  exact ⟨⟨r, rfl, HR.out⟩, hb1⟩

set_option maxHeartbeats 1600000 in
theorem first33 {w : World} {U q a name v} {l : List (Int × Int)} (h : CacheM w U q a name v l) (hlen : l.length ≤ 200) (g : Nat) (N : Int) (hg : w.cell? ⟨g, 0, none⟩ = some (.int .i64 N)) :
    Calls Tryz.prog 31 #[.pointer (some ⟨q, 0, none⟩), .func (.func 37) #[] #[.pointer (some ⟨g, 0, none⟩)]] w fun en w' => (∃ r : Nat, en = .returned (.int .i64 (r : Int)) ∧ FoundAt l (fun x => decide (N ≤ x.2)) r) ∧ Below w.heap.size w w' := by
  have hgw := World.block_lt_of_cell? w _ hg
  have HB := hid (((Below.refl w.heap.size w).alloc (Nat.le_refl _) (.cells #[.pointer (some ⟨q, 0, none⟩)] 25)).alloc (by simp) (.cells #[.func (.func 37) #[] #[.pointer (some ⟨g, 0, none⟩)]] 70))
  have z1 : (w.alloc (.cells #[.pointer (some ⟨q, 0, none⟩)] 25)).heap.size = w.heap.size + 1 := by simp
  have HE1 : Hid (((w.alloc (.cells #[.pointer (some ⟨q, 0, none⟩)] 25)).alloc (.cells #[.func (.func 37) #[] #[.pointer (some ⟨g, 0, none⟩)]] 70)).heap[w.heap.size]? = some (.cells #[.pointer (some ⟨q, 0, none⟩)] 25)) := by
    show _ = _
    rw [Below.heap_alloc _ _ _ (by omega)]
    exact heap_alloc_new _ _
  have HE2 := hid (heap_alloc_new (w.alloc (.cells #[.pointer (some ⟨q, 0, none⟩)] 25)) (.cells #[.func (.func 37) #[] #[.pointer (some ⟨g, 0, none⟩)]] 70))
  rw [z1] at HE2
  have HM := hid (h.under HB.out)
  have HG := hid ((World.cell?_of_block (HB.out.block g hgw)).trans hg)
  obtain ⟨oa, cap, rfl, hcap, hcm, hnn, hoa⟩ := h.ents.shape
  clear h hg z1 hoa
  have e1 := cell_at HE1.out (j := 0) rfl
  have e2 := cell_at HE2.out (j := 0) rfl
  obtain ⟨k0, k1, k2⟩ := HM.out.c
  go_enter Tryz.func31, Tryz.ntmps31
  go_wp2_with fail
  generalize (w.alloc (.cells #[.pointer (some ⟨q, 0, none⟩)] 25)).alloc (.cells #[.func (.func 37) #[] #[.pointer (some ⟨g, 0, none⟩)]] 70) = W at *
  have HS : Hid (∀ W', Below W.heap.size W W' → Calls Tryz.prog 49 #[.int .i64 (l.length : Int), .func (.func 50) #[] #[.pointer (some ⟨w.heap.size + 1, 0, none⟩), .pointer (some ⟨w.heap.size, 0, none⟩)]] W' fun en w' => (∃ r : Nat, en = .returned (.int .i64 (r : Int)) ∧ FoundAt l (fun x => decide (N ≤ x.2)) r) ∧ Below w.heap.size w w') := fun W' hW' => by
    have hws := HB.out.size
    refine (search_50 l.length (by omega) (fun t => match l[t]? with | some x => decide (N ≤ x.2) | none => true) _ _ ?_).mono ?_
    · intro t ht W2 hb2
      have hx : l[t]? = some l[t] := List.getElem?_eq_getElem ht
      rw [hx]
      have hb3 := hW'.trans (hb2.mono hW'.size)
      have up : ∀ {p : Addr} {u : Value}, W.cell? p = some u → W2.cell? p = some u := fun {p} {u} hu => (World.cell?_of_block (hb3.block p.block (World.block_lt_of_cell? W _ hu))).trans hu
      exact (one33 (HM.out.under hb3) hlen t l[t] hx (w.heap.size + 1) w.heap.size g N (up e2) (up e1) (up HG.out)).mono fun e w' ⟨e1, e2⟩ => ⟨e1, hb2.trans (e2.mono hb2.size)⟩
    · rintro e w' ⟨r, r1, r2, r3, r4, r5⟩
      refine ⟨⟨r, r2, r1, ?_, ?_⟩, HB.out.trans ((hW'.trans (r5.mono hW'.size)).mono hws)⟩
      · rcases r3 with r3 | r3
        · exact .inl r3
        · refine .inr (fun x hx => ?_)
          rw [hx] at r3
          exact r3
      · rcases r4 with r4 | r4
        · exact .inl r4
        · refine .inr (fun x hx => ?_)
          rw [hx] at r4
          exact r4
  try go_quiet (fail)
  try go_wp2_with fail
  refine (HS.out _ (by first | exact Below.refl _ _ | exact (Below.refl _ _).drew | exact (Below.refl _ _).drew.drew)).mono ?_
  rintro e w1 ⟨⟨r, rfl, hr⟩, hb1⟩
  have HR := hid hr
  clear hr
  go_wp2_with fail
  go_ret
  exact ⟨⟨r, rfl, HR.out⟩, hb1⟩

set_option maxHeartbeats 1600000 in
theorem first34 {w : World} {U q a name v} {l : List (Int × Int)} (h : CacheM w U q a name v l) (hlen : l.length ≤ 200) (g : Nat) (N : Int) (hg : w.cell? ⟨g, 0, none⟩ = some (.int .i64 N)) :
    Calls Tryz.prog 31 #[.pointer (some ⟨q, 0, none⟩), .func (.func 38) #[] #[.pointer (some ⟨g, 0, none⟩)]] w fun en w' => (∃ r : Nat, en = .returned (.int .i64 (r : Int)) ∧ FoundAt l (fun x => decide (N < x.2)) r) ∧ Below w.heap.size w w' := by
  have hgw := World.block_lt_of_cell? w _ hg
  have HB := hid (((Below.refl w.heap.size w).alloc (Nat.le_refl _) (.cells #[.pointer (some ⟨q, 0, none⟩)] 25)).alloc (by simp) (.cells #[.func (.func 38) #[] #[.pointer (some ⟨g, 0, none⟩)]] 70))
  have z1 : (w.alloc (.cells #[.pointer (some ⟨q, 0, none⟩)] 25)).heap.size = w.heap.size + 1 := by simp
  have HE1 : Hid (((w.alloc (.cells #[.pointer (some ⟨q, 0, none⟩)] 25)).alloc (.cells #[.func (.func 38) #[] #[.pointer (some ⟨g, 0, none⟩)]] 70)).heap[w.heap.size]? = some (.cells #[.pointer (some ⟨q, 0, none⟩)] 25)) := by
    show _ = _
    rw [Below.heap_alloc _ _ _ (by omega)]
    exact heap_alloc_new _ _
  have HE2 := hid (heap_alloc_new (w.alloc (.cells #[.pointer (some ⟨q, 0, none⟩)] 25)) (.cells #[.func (.func 38) #[] #[.pointer (some ⟨g, 0, none⟩)]] 70))
  rw [z1] at HE2
  have HM := hid (h.under HB.out)
  have HG := hid ((World.cell?_of_block (HB.out.block g hgw)).trans hg)
  obtain ⟨oa, cap, rfl, hcap, hcm, hnn, hoa⟩ := h.ents.shape
  clear h hg z1 hoa
  have e1 := cell_at HE1.out (j := 0) rfl
  have e2 := cell_at HE2.out (j := 0) rfl
  obtain ⟨k0, k1, k2⟩ := HM.out.c
  go_enter Tryz.func31, Tryz.ntmps31
  go_wp2_with fail
  generalize (w.alloc (.cells #[.pointer (some ⟨q, 0, none⟩)] 25)).alloc (.cells #[.func (.func 38) #[] #[.pointer (some ⟨g, 0, none⟩)]] 70) = W at *
  have HS : Hid (∀ W', Below W.heap.size W W' → Calls Tryz.prog 49 #[.int .i64 (l.length : Int), .func (.func 50) #[] #[.pointer (some ⟨w.heap.size + 1, 0, none⟩), .pointer (some ⟨w.heap.size, 0, none⟩)]] W' fun en w' => (∃ r : Nat, en = .returned (.int .i64 (r : Int)) ∧ FoundAt l (fun x => decide (N < x.2)) r) ∧ Below w.heap.size w w') := fun W' hW' => by
    have hws := HB.out.size
    refine (search_50 l.length (by omega) (fun t => match l[t]? with | some x => decide (N < x.2) | none => true) _ _ ?_).mono ?_
    · intro t ht W2 hb2
      have hx : l[t]? = some l[t] := List.getElem?_eq_getElem ht
      rw [hx]
      have hb3 := hW'.trans (hb2.mono hW'.size)
      have up : ∀ {p : Addr} {u : Value}, W.cell? p = some u → W2.cell? p = some u := fun {p} {u} hu => (World.cell?_of_block (hb3.block p.block (World.block_lt_of_cell? W _ hu))).trans hu
      exact (one34 (HM.out.under hb3) hlen t l[t] hx (w.heap.size + 1) w.heap.size g N (up e2) (up e1) (up HG.out)).mono fun e w' ⟨e1, e2⟩ => ⟨e1, hb2.trans (e2.mono hb2.size)⟩
    · rintro e w' ⟨r, r1, r2, r3, r4, r5⟩
      refine ⟨⟨r, r2, r1, ?_, ?_⟩, HB.out.trans ((hW'.trans (r5.mono hW'.size)).mono hws)⟩
      · rcases r3 with r3 | r3
        · exact .inl r3
        · refine .inr (fun x hx => ?_)
          rw [hx] at r3
          exact r3
      · rcases r4 with r4 | r4
        · exact .inl r4
        · refine .inr (fun x hx => ?_)
          rw [hx] at r4
          exact r4
  try go_quiet (fail)
  try go_wp2_with fail
  refine (HS.out _ (by first | exact Below.refl _ _ | exact (Below.refl _ _).drew | exact (Below.refl _ _).drew.drew)).mono ?_
  rintro e w1 ⟨⟨r, rfl, hr⟩, hb1⟩
  have HR := hid hr
  clear hr
  go_wp2_with fail
  go_ret
  exact ⟨⟨r, rfl, HR.out⟩, hb1⟩

set_option maxHeartbeats 1600000 in
theorem first35 {w : World} {U q a name v} {l : List (Int × Int)} (h : CacheM w U q a name v l) (hlen : l.length ≤ 200) (g : Nat) (N : Int) (hg : w.cell? ⟨g, 0, none⟩ = some (.int .i64 N)) :
    Calls Tryz.prog 31 #[.pointer (some ⟨q, 0, none⟩), .func (.func 39) #[] #[.pointer (some ⟨g, 0, none⟩)]] w fun en w' => (∃ r : Nat, en = .returned (.int .i64 (r : Int)) ∧ FoundAt l (fun x => decide (N < x.1)) r) ∧ Below w.heap.size w w' := by
  have hgw := World.block_lt_of_cell? w _ hg
  have HB := hid (((Below.refl w.heap.size w).alloc (Nat.le_refl _) (.cells #[.pointer (some ⟨q, 0, none⟩)] 25)).alloc (by simp) (.cells #[.func (.func 39) #[] #[.pointer (some ⟨g, 0, none⟩)]] 70))
  have z1 : (w.alloc (.cells #[.pointer (some ⟨q, 0, none⟩)] 25)).heap.size = w.heap.size + 1 := by simp
  have HE1 : Hid (((w.alloc (.cells #[.pointer (some ⟨q, 0, none⟩)] 25)).alloc (.cells #[.func (.func 39) #[] #[.pointer (some ⟨g, 0, none⟩)]] 70)).heap[w.heap.size]? = some (.cells #[.pointer (some ⟨q, 0, none⟩)] 25)) := by
    show _ = _
    rw [Below.heap_alloc _ _ _ (by omega)]
    exact heap_alloc_new _ _
  have HE2 := hid (heap_alloc_new (w.alloc (.cells #[.pointer (some ⟨q, 0, none⟩)] 25)) (.cells #[.func (.func 39) #[] #[.pointer (some ⟨g, 0, none⟩)]] 70))
  rw [z1] at HE2
  have HM := hid (h.under HB.out)
  have HG := hid ((World.cell?_of_block (HB.out.block g hgw)).trans hg)
  obtain ⟨oa, cap, rfl, hcap, hcm, hnn, hoa⟩ := h.ents.shape
  clear h hg z1 hoa
  have e1 := cell_at HE1.out (j := 0) rfl
  have e2 := cell_at HE2.out (j := 0) rfl
  obtain ⟨k0, k1, k2⟩ := HM.out.c
  go_enter Tryz.func31, Tryz.ntmps31
  go_wp2_with fail
  generalize (w.alloc (.cells #[.pointer (some ⟨q, 0, none⟩)] 25)).alloc (.cells #[.func (.func 39) #[] #[.pointer (some ⟨g, 0, none⟩)]] 70) = W at *
  have HS : Hid (∀ W', Below W.heap.size W W' → Calls Tryz.prog 49 #[.int .i64 (l.length : Int), .func (.func 50) #[] #[.pointer (some ⟨w.heap.size + 1, 0, none⟩), .pointer (some ⟨w.heap.size, 0, none⟩)]] W' fun en w' => (∃ r : Nat, en = .returned (.int .i64 (r : Int)) ∧ FoundAt l (fun x => decide (N < x.1)) r) ∧ Below w.heap.size w w') := fun W' hW' => by
    have hws := HB.out.size
    refine (search_50 l.length (by omega) (fun t => match l[t]? with | some x => decide (N < x.1) | none => true) _ _ ?_).mono ?_
    · intro t ht W2 hb2
      have hx : l[t]? = some l[t] := List.getElem?_eq_getElem ht
      rw [hx]
      have hb3 := hW'.trans (hb2.mono hW'.size)
      have up : ∀ {p : Addr} {u : Value}, W.cell? p = some u → W2.cell? p = some u := fun {p} {u} hu => (World.cell?_of_block (hb3.block p.block (World.block_lt_of_cell? W _ hu))).trans hu
      exact (one35 (HM.out.under hb3) hlen t l[t] hx (w.heap.size + 1) w.heap.size g N (up e2) (up e1) (up HG.out)).mono fun e w' ⟨e1, e2⟩ => ⟨e1, hb2.trans (e2.mono hb2.size)⟩
    · rintro e w' ⟨r, r1, r2, r3, r4, r5⟩
      refine ⟨⟨r, r2, r1, ?_, ?_⟩, HB.out.trans ((hW'.trans (r5.mono hW'.size)).mono hws)⟩
      · rcases r3 with r3 | r3
        · exact .inl r3
        · refine .inr (fun x hx => ?_)
          rw [hx] at r3
          exact r3
      · rcases r4 with r4 | r4
        · exact .inl r4
        · refine .inr (fun x hx => ?_)
          rw [hx] at r4
          exact r4
  try go_quiet (fail)
  try go_wp2_with fail
  refine (HS.out _ (by first | exact Below.refl _ _ | exact (Below.refl _ _).drew | exact (Below.refl _ _).drew.drew)).mono ?_
  rintro e w1 ⟨⟨r, rfl, hr⟩, hb1⟩
  have HR := hid hr
  clear hr
  go_wp2_with fail
  go_ret
  exact ⟨⟨r, rfl, HR.out⟩, hb1⟩

end Go.Proofs.YtjggdecjnnpjaaaGreat

/- keep: the entries are others, in the file first. -/
namespace Go.Proofs.YtjggdecjnnpjaaaGreat
open Go.RowKit Go.Maps Go.Sort
set_option maxRecDepth 100000
set_option linter.unusedSimpArgs false
set_option linter.unusedVariables false

def keepE (size : Nat) (fs : List AF) (name : ByteArray) (l l' : List (Int × Int)) : Nat := if l' = l then 0 else repE size fs name (strOf (ebytes l'))
def keepL (size : Nat) (fs : List AF) (name : ByteArray) (l l' : List (Int × Int)) : List AF := if l' = l then fs else repL size fs name (strOf (ebytes l'))
def keptW (size : Nat) (fs : List AF) (name : ByteArray) (l l' : List (Int × Int)) : List (Int × Int) := if keepE size fs name l l' = 0 then l' else l

/-- A cache and its disk, in blocks B. -/
def CD (w : World) (B : Nat → Prop) (q a : Nat) (name : ByteArray) (l : List (Int × Int)) (size : Nat) (fs : List AF) : Prop :=
  ∃ U S v, CacheM w U q a name v l ∧ DiskA w S a size fs ∧ (∀ k, S k → ¬ U k) ∧ (∀ k, B k ↔ U k ∨ S k)
/-- What a call leaves of both. -/
def CDA (B : Nat → Prop) (w w' : World) (q a : Nat) (name : ByteArray) (l : List (Int × Int)) (size : Nat) (fs : List AF) : Prop :=
  ∃ B', CD w' B' q a name l size fs ∧ (∀ k, B' k → B k ∨ w.heap.size ≤ k) ∧ (∀ k, B k → B' k) ∧ Keeps B w w'
theorem CD.below {w : World} {B q a name l size fs} (h : CD w B q a name l size fs) : ∀ k, B k → k < w.heap.size := fun k hk => by
  obtain ⟨U, S, v, h1, h2, h3, h4⟩ := h
  rcases (h4 k).1 hk with h | h
  · exact h1.below k h
  · exact h2.below k h
theorem CD.under {w w1 : World} {B q a name l size fs} (h : CD w B q a name l size fs) (hb : Below w.heap.size w w1) : CD w1 B q a name l size fs := by
  obtain ⟨U, S, v, h1, h2, h3, h4⟩ := h
  exact ⟨U, S, v, h1.under hb, h2.under hb, h3, h4⟩
theorem CD.beside {w w1 : World} {B T : Nat → Prop} {q a name l size fs} (h : CD w B q a name l size fs) (hk : Keeps T w w1) (hd : ∀ k, B k → ¬ T k) : CD w1 B q a name l size fs := by
  obtain ⟨U, S, v, h1, h2, h3, h4⟩ := h
  exact ⟨U, S, v, h1.beside hk (fun k hU => hd k ((h4 k).2 (.inl hU))), h2.beside hk (fun k hS => hd k ((h4 k).2 (.inr hS))), h3, h4⟩
theorem CDA.same {w w1 : World} {B q a name l size fs} (h : CD w B q a name l size fs) (hb : Below w.heap.size w w1) : CDA B w w1 q a name l size fs :=
  ⟨B, h.under hb, fun k hk => .inl hk, fun k hk => hk, Keeps.of_below hb⟩
theorem CDA.trans {w w1 w2 : World} {B q a name l size fs q2 a2 name2 l2 size2 fs2} (h : CDA B w w1 q a name l size fs) (k : ∀ B', CD w1 B' q a name l size fs → CDA B' w1 w2 q2 a2 name2 l2 size2 fs2) : CDA B w w2 q2 a2 name2 l2 size2 fs2 := by
  obtain ⟨B', h1, h2, h3, h4⟩ := h
  obtain ⟨B'', k1, k2, k3, k4⟩ := k B' h1
  have hs := h4.size
  refine ⟨B'', k1, fun x hx => ?_, fun x hx => k3 x (h3 x hx), h4.trans k4 h2⟩
  rcases k2 x hx with h | h
  · exact h2 x h
  · exact .inr (by omega)
theorem CDA.then {w w1 w2 : World} {B q a name l size fs} (hb : Below w.heap.size w w1) (h : CDA B w1 w2 q a name l size fs) : CDA B w w2 q a name l size fs := by
  obtain ⟨B', h1, h2, h3, h4⟩ := h
  have hs := hb.size
  refine ⟨B', h1, fun x hx => ?_, h3, (Keeps.of_below hb).trans h4 (fun x hx => .inl hx)⟩
  rcases h2 x hx with h | h
  · exact .inl h
  · exact .inr (by omega)
theorem CD.facts {w : World} {B q a name l size fs} (h : CD w B q a name l size fs) : totalA fs ≤ size ∧ size ≤ 16777216 := by
  obtain ⟨U, S, v, h1, h2, h3, h4⟩ := h
  exact ⟨h2.facts.1, h2.facts.2.1⟩
theorem cells3 {W : World} {q : Nat} {u0 u1 u2 : Value} {T : TypeId} (h : W.heap[q]? = some (.cells #[u0, u1, u2] T)) : W.cell? ⟨q, 0, none⟩ = some u0 ∧ W.cell? ⟨q, 1, none⟩ = some u1 ∧ W.cell? ⟨q, 2, none⟩ = some u2 := ⟨cell_at h rfl, cell_at h rfl, cell_at h rfl⟩

/-- What keep leaves. -/
def KeepPost (U S U0 : Nat → Prop) (w w' : World) (q a : Nat) (name : ByteArray) (l : List (Int × Int)) (size : Nat) (fs : List AF) : Prop :=
  ∃ U' S' v, CacheM w' U' q a name v l ∧ DiskA w' S' a size fs ∧ (∀ k, S' k → ¬ U' k) ∧ (∀ k, U' k ∨ S' k → (U k ∨ S k) ∨ U0 k ∨ w.heap.size ≤ k) ∧ (∀ k, U k ∨ S k → U' k ∨ S' k) ∧ Keeps (fun k => U k ∨ S k) w w'
theorem keeps_set (w : World) (q j : Nat) (v : Value) : Keeps (fun k => k = q) w (w.setCell ⟨q, j, none⟩ v) := ⟨rfl, rfl, rfl, by rw [set_size]; exact Nat.le_refl _, fun k hk hn => Below.heap_setCell w ⟨q, j, none⟩ v k hn⟩
theorem keep_end {w : World} {U S U0 : Nat → Prop} {q a name v v' size fs FS} {l l' : List (Int × Int)} (h1 : CacheM w U q a name v l) (h2 : DiskA w S a size fs) (h3 : ∀ k, S k → ¬ U k)
    (he : EL w v' l') (ho : ∀ k, v'.ownBlock = some k → (U k ∨ U0 k) ∧ k ≠ q) (hU0 : ∀ k, U0 k → k < w.heap.size ∧ ¬ S k) {W W' : World} (hb : Below w.heap.size w W) (hA : AfterA S W W' a size FS) :
    KeepPost U S U0 w W' q a name l size FS ∧ KeepPost U S U0 w (W'.setCell ⟨q, 2, none⟩ v') q a name l' size FS ∧ W'.cell? ⟨q, 2, none⟩ = some v ∧ W'.frozen? ⟨q, 2, none⟩ = false := by
  obtain ⟨S', g1, g2, g3, g4⟩ := hA
  have hs := hb.size
  have hs4 := g4.size
  have hM : CacheM W' U q a name v l := (h1.under hb).beside g4 (fun k hU hS => h3 k hS hU)
  have hK : Keeps (fun k => U k ∨ S k) w W' := (Keeps.of_below hb).trans g4 (fun x hx => .inl (.inr hx))
  have hd : ∀ k, S' k → ¬ U k := fun k hS hU => by
    rcases g2 k hS with h | h
    · exact h3 k h hU
    · have := h1.below k hU; omega
  have hS' : ∀ k, S' k → (U k ∨ S k) ∨ U0 k ∨ w.heap.size ≤ k := fun k hS => by
    rcases g2 k hS with h | h
    · exact .inl (.inr h)
    · exact .inr (.inr (by omega))
  refine ⟨⟨U, S', v, hM, g1, hd, fun k hk => ?_, fun k hk => ?_, hK⟩, ?_, hM.c.2.2, hM.f 2⟩
  · rcases hk with hk | hk
    · exact .inl (.inl hk)
    · exact hS' k hk
  · rcases hk with hk | hk
    · exact .inl hk
    · exact .inr (g3 k hk)
  · have hE : EL W' v' l' := (he.under hb).kept g4.size (fun k hk => g4.block k (by
        have := he.lt k hk; omega) (fun hS => by
        rcases (ho k hk).1 with h | h
        · exact h3 k hS h
        · exact (hU0 k h).2 hS))
    have hset := hM.set hE U0 ho (fun k hk => by have := (hU0 k hk).1; omega)
    refine ⟨_, S', v', hset, g1.beside (keeps_set W' q 2 v') (fun k hS e => hd k hS (by rw [e]; exact h1.self)), fun k hS hU => ?_, fun k hk => ?_, fun k hk => ?_, ?_⟩
    · rcases hU with hU | hU
      · exact hd k hS hU
      · have := hU0 k hU
        rcases g2 k hS with h | h
        · exact this.2 h
        · omega
    · rcases hk with (hk | hk) | hk
      · exact .inl (.inl hk)
      · exact .inr (.inl hk)
      · exact hS' k hk
    · rcases hk with hk | hk
      · exact .inl (.inl hk)
      · exact .inr (g3 k hk)
    · exact hK.trans (keeps_set W' q 2 v') (fun x hx => .inl (.inl (by rw [hx]; exact h1.self)))
set_option maxHeartbeats 3200000 in
theorem keep_any {w : World} {U S U0 : Nat → Prop} {q a name v v' size fs} {l l' : List (Int × Int)} (h1 : CacheM w U q a name v l) (h2 : DiskA w S a size fs) (h3 : ∀ k, S k → ¬ U k) (hl : l.length ≤ 200) (hn : name.size ≤ maxLen)
    (he : EL w v' l') (hk : EOk l') (ho : ∀ k, v'.ownBlock = some k → (U k ∨ U0 k) ∧ k ≠ q) (hU0 : ∀ k, U0 k → k < w.heap.size ∧ ¬ S k) :
    Calls Tryz.prog 33 #[.pointer (some ⟨q, 0, none⟩), v'] w fun e w' => e = .returned (.int .i64 (keepE size fs name l l' : Int)) ∧ KeepPost U S U0 w w' q a name (keptW size fs name l l') size (keepL size fs name l l') := by
  have hsm := (h2.facts).2.1
  obtain ⟨oa, cap, rfl, hcap, hcm, hnn, hoa⟩ := he.shape
  have hel := ebytes_length l'
  have hfew := hk.few
  have H51 := hid (equal_any he h1.ents (by omega) (by omega))
  obtain ⟨k0, k1, k2⟩ := h1.c
  by_cases heq : l' = l
  · have HE : Hid (keepE size fs name l l' = 0 ∧ keepL size fs name l l' = fs ∧ keptW size fs name l l' = l) := ⟨by unfold keepE; rw [if_pos heq], by unfold keepL; rw [if_pos heq], by unfold keptW keepE; rw [if_pos heq, if_pos rfl, heq]⟩
    rw [decide_eq_true heq] at H51
    have HP : Hid (∀ W, Below w.heap.size w W → KeepPost U S U0 w W q a name l size fs) := fun W hb => ⟨U, S, v, h1.under hb, h2.under hb, h3, fun k hk => .inl hk, fun k hk => hk, Keeps.of_below hb⟩
    clear h1 h2 h3 he hk ho hU0 heq hoa
    go_enter Tryz.func33, Tryz.ntmps33
    go_wp2_with (go_at_call 51; refine H51.out.mono ?_; rintro e w1 ⟨rfl, hb1⟩)
    go_ret
    refine ⟨by rw [HE.out.1]; rfl, ?_⟩
    rw [HE.out.2.1, HE.out.2.2]
    exact HP.out _ hb1
  · rw [decide_eq_false heq] at H51
    have HE : Hid (keepE size fs name l l' = repE size fs name (strOf (ebytes l')) ∧ keepL size fs name l l' = repL size fs name (strOf (ebytes l'))) := ⟨by unfold keepE; rw [if_neg heq], by unfold keepL; rw [if_neg heq]⟩
    have HM := hid h1
    have HD := hid h2
    have H3 := hid h3
    have HV := hid he
    have HO := hid ho
    have HU := hid hU0
    have HKp : Hid (∀ W, Below w.heap.size w W → ∀ p u, w.cell? p = some u → W.cell? p = some u) := fun W hb p u hu => (World.cell?_of_block (hb.block p.block (World.block_lt_of_cell? w _ hu))).trans hu
    have H40 : Hid (∀ W, Below w.heap.size w W → Calls Tryz.prog 52 #[.pointer (some ⟨q, 0, none⟩)] W fun e w' => e = .returned (.pointer (some ⟨a, 0, none⟩)) ∧ w' = W) := fun W hb => cdisk_any (h1.under hb)
    have H52 : Hid (∀ W, Below w.heap.size w W → Calls Tryz.prog 54 #[.slice oa l'.length cap] W fun e w' => e = .returned (.string (strOf (ebytes l'))) ∧ Below w.heap.size w w') := fun W hb => (text_any (he.under hb) hk).mono fun e w' ⟨e1, e2⟩ => ⟨e1, hb.trans (e2.mono hb.size)⟩
    have H10 : Hid (∀ W, Below w.heap.size w W → Calls Tryz.prog 53 #[.pointer (some ⟨a, 0, none⟩), .string name, .string (strOf (ebytes l'))] W fun e w' => e = .returned (.int .i64 (keepE size fs name l l' : Int)) ∧ AfterA S W w' a size (keepL size fs name l l')) := fun W hb => by
      have := replaceA (h2.under hb) name (strOf (ebytes l')) hn (by rw [strOf_size]; unfold maxLen; omega)
      rw [HE.out.1, HE.out.2]
      exact this
    have HT : Hid (keptW size fs name l l' = if keepE size fs name l l' = 0 then l' else l) := rfl
    clear h1 h2 h3 he hk ho hU0 heq hoa HE
    generalize keepE size fs name l l' = E at *
    generalize keepL size fs name l l' = FS at *
    generalize keptW size fs name l l' = L at *
    generalize ebytes l' = eb at *
    go_enter Tryz.func33, Tryz.ntmps33
    go_wp2_with (go_at_call 51; refine H51.out.mono ?_; rintro e w1 ⟨rfl, hb1⟩; have p1 := HKp.out _ hb1 _ _ k1)
    have HFin : Hid (∀ W W', Below w.heap.size w W → AfterA S W W' a size FS → KeepPost U S U0 w W' q a name l size FS ∧ KeepPost U S U0 w (W'.setCell ⟨q, 2, none⟩ (.slice oa l'.length cap)) q a name l' size FS ∧ W'.cell? ⟨q, 2, none⟩ = some v ∧ W'.frozen? ⟨q, 2, none⟩ = false) := fun W W' hb hA => keep_end HM.out HD.out H3.out HV.out HO.out HU.out hb hA
    have HKA : Hid (∀ W W', Below w.heap.size w W → AfterA S W W' a size FS → W'.cell? ⟨q, 1, none⟩ = some (.string name)) := fun W W' hb hA => by
      obtain ⟨S', _, _, _, hk⟩ := hA
      have hq := HM.out.below q HM.out.self
      have hs := hb.size
      exact (World.cell?_of_block (a := ⟨q, 1, none⟩) (hk.block q (by omega) (fun hS => H3.out q hS HM.out.self))).trans (HKp.out _ hb _ _ k1)
    have hk1 := k1
    clear k0 k2
    go_region_held3 (fun w' => w'.cell? ⟨q, 1, none⟩ = some (.string name)) (go_keep)
      (first
      | (go_at_call 52; refine (H40.out _ (by first | exact hb1 | exact hb1.drew | exact hb1.drew.drew)).mono ?_; rintro e w2 ⟨rfl, rfl⟩)
      | (go_at_call 54; refine (H52.out _ (by first | exact hb1 | exact hb1.drew | exact hb1.drew.drew)).mono ?_; rintro e w3 ⟨rfl, hb3⟩; have p3 := HKp.out _ hb3 _ _ hk1)
      | (go_at_call 53; refine (H10.out _ (by first | exact hb3 | exact hb3.drew | exact hb3.drew.drew)).mono ?_; rintro e w4 ⟨rfl, hA4⟩; have p4 := HKA.out _ _ (by first | exact hb3 | exact hb3.drew | exact hb3.drew.drew) hA4)
      | fail)
    all_goals
      obtain ⟨f1, f2, f3, f4⟩ := HFin.out _ _ (by first | exact hb3 | exact hb3.drew | exact hb3.drew.drew) hA4
      have F1 := hid f1
      have F2 := hid f2
      clear f1 f2 hA4
      by_cases hE : E = 0
      · subst hE
        rw [if_pos rfl] at HT
        go_wp2_with fail
        go_ret
        refine ⟨rfl, ?_⟩
        rw [HT.out]
        exact F2.out
      · rw [if_neg hE] at HT
        have hE' : ((E : Int) == 0) = false := by simp; omega
        go_wp2_with fail
        go_ret
        refine ⟨rfl, ?_⟩
        rw [HT.out]
        exact F1.out

end Go.Proofs.YtjggdecjnnpjaaaGreat

