/- begin: a snapshot ahead of the entries. -/
import Derived.Test.YtclldpecbocclaaGreatK15
namespace Go.Proofs.YtclldpecbocclaaGreat
open Go.RowKit Go.Maps
set_option maxRecDepth 100000
set_option linter.unusedSimpArgs false
set_option linter.unusedVariables false

theorem behindN_eq : ∀ (l : List Et) (base : Int) (n : Nat), (∀ (j : Nat) x, l[j]? = some x → x.i = base + (j : Int)) → n ≤ l.length → behindN (base + (n : Int) - 1) l = n
  | [], base, n, h, hn => by simp at hn; subst hn; rfl
  | x :: r, base, 0, h, hn => by
    have h0 := h 0 x rfl
    unfold behindN
    rw [if_neg (by simp at h0; omega)]
  | x :: r, base, n + 1, h, hn => by
    have h0 := h 0 x rfl
    have ih := behindN_eq r (base + 1) n (fun j y hy => by have := h (j + 1) y (by simpa using hy); rw [this]; push_cast; omega) (by simp at hn; omega)
    unfold behindN
    rw [if_pos (by simp at h0; push_cast; omega)]
    have e : base + ((n + 1 : Nat) : Int) - 1 = base + 1 + (n : Int) - 1 := by push_cast; omega
    rw [e, ih]
theorem beginE_some {s : LSt} (h : LOk s) {x y : Et} (hA : atE s x.i = some y) (ht : y.t = x.t) : s.list.drop (behindN x.i s.list) = beginE s x := by
  unfold beginE
  rw [hA]
  simp only
  rw [if_pos ht]
  obtain ⟨k, hk, hkl, _, _⟩ := atE_some hA
  have hb := behindN_eq s.list (s.snap.i + 1) (k + 1) h.idx (by omega)
  have e : s.snap.i + 1 + ((k + 1 : Nat) : Int) - 1 = x.i := by push_cast; omega
  rw [e] at hb
  rw [hb]
  congr 1
  omega
theorem LogM.setSnap {w : World} {U q a v s} (h : LogM w U q a v s) (x : Et) (s' : LSt) (hs' : s'.term = s.term ∧ s'.vote = s.vote ∧ s'.snap = x ∧ s'.list = s.list) :
    LogM (((w.setCell ⟨q, 2, none⟩ (.int .i64 x.t)).setCell ⟨q, 3, none⟩ (.int .i64 x.i)).setCell ⟨q, 4, none⟩ (.string (strOf x.d))) U q a v s' := by
  refine ⟨fun k hk => by rw [set_size, set_size, set_size]; exact h.below k hk, h.self, ?_, ?_, h.own⟩
  · rw [set_box (set_box (set_box h.box)), hs'.1, hs'.2.1, hs'.2.2.1]
    rfl
  · rw [hs'.2.2.2]
    refine h.ents.kept (fun k hk => ?_)
    have hne := (h.own k hk).2
    rw [Below.heap_setCell _ ⟨q, 4, none⟩ _ k hne, Below.heap_setCell _ ⟨q, 3, none⟩ _ k hne, Below.heap_setCell _ ⟨q, 2, none⟩ _ k hne]
theorem begin_fin {w w4 : World} {U q a v s} (h : LogM w U q a v s) (hb : Below w.heap.size w w4) {v5 : Value} {l5 : List Et} (he : EL w4 v5 l5) (ho : ∀ k, v5.ownBlock = some k → w.heap.size ≤ k) (x : Et) (s' : LSt) (hs' : s'.term = s.term ∧ s'.vote = s.vote ∧ s'.snap = x ∧ s'.list = l5) :
    LAfter U w ((((w4.setCell ⟨q, 5, none⟩ v5).setCell ⟨q, 2, none⟩ (.int .i64 x.t)).setCell ⟨q, 3, none⟩ (.int .i64 x.i)).setCell ⟨q, 4, none⟩ (.string (strOf x.d))) q a s' := by
  obtain ⟨_, _, U', v', g1, g2, g3, g4⟩ := (h.under hb).setList hb (W := w4) ⟨rfl, rfl, rfl, Nat.le_refl _, fun k _ _ => rfl⟩ he (fun k hk => .inr (ho k hk)) h.below { s with list := l5 } ⟨rfl, rfl, rfl, rfl⟩
  refine ⟨U', v', g1.setSnap x s' ⟨hs'.1, hs'.2.1, hs'.2.2.1, hs'.2.2.2⟩, g2, g3, ?_⟩
  refine g4.trans (((keeps_set _ q 2 _).trans (keeps_set _ q 3 _) (fun x hx => .inl hx)).trans (keeps_set _ q 4 _) (fun x hx => .inl hx)) (fun x hx => .inl (by rw [hx]; exact h.self))
end Go.Proofs.YtclldpecbocclaaGreat

/- begin: its walk. -/
namespace Go.Proofs.YtclldpecbocclaaGreat
open Go.RowKit Go.Maps
set_option maxRecDepth 100000
set_option linter.unusedSimpArgs false
set_option linter.unusedVariables false

/-- What stands in a world behind: the log's cells and those of one more block. -/
structure BegC (W : World) (q b : Nat) (v : Value) (s : LSt) (x : Et) : Prop where
  c2 : W.cell? ⟨q, 2, none⟩ = some (.int .i64 s.snap.t)
  c3 : W.cell? ⟨q, 3, none⟩ = some (.int .i64 s.snap.i)
  c4 : W.cell? ⟨q, 4, none⟩ = some (.string (strOf s.snap.d))
  c5 : W.cell? ⟨q, 5, none⟩ = some v
  f2 : W.frozen? ⟨q, 2, none⟩ = false
  f3 : W.frozen? ⟨q, 3, none⟩ = false
  f4 : W.frozen? ⟨q, 4, none⟩ = false
  f5 : W.frozen? ⟨q, 5, none⟩ = false
  n0 : W.cell? ⟨b, 0, none⟩ = some (.int .i64 x.t)
  n1 : W.cell? ⟨b, 1, none⟩ = some (.int .i64 x.i)
  n2 : W.cell? ⟨b, 2, none⟩ = some (.string (strOf x.d))
theorem BegC.of {W : World} {U q a b v s x} (h : LogM W U q a v s) (hb : W.heap[b]? = some (.cells #[.int .i64 x.t, .int .i64 x.i, .string (strOf x.d)] 37)) : BegC W q b v s x :=
  ⟨h.c.c2, h.c.c3, h.c.c4, h.c.c5, h.f 2, h.f 3, h.f 4, h.f 5, cell_at hb rfl, cell_at hb rfl, cell_at hb rfl⟩
set_option maxHeartbeats 3200000 in
theorem begin_any {w : World} {U q a v s} (h : LogM w U q a v s) (hb : LB s) (hk : LOk s) (x : Et) (s' : LSt) (hs' : s'.term = s.term ∧ s'.vote = s.vote ∧ s'.snap = x ∧ s'.list = beginE s x) :
    Calls Tryz.prog 33 #[.pointer (some ⟨q, 0, none⟩), .agg #[.int .i64 x.t, .int .i64 x.i, .string (strOf x.d)]] w fun e w' => e = .returned (.tuple #[]) ∧ LAfter U w w' q a s' := by
  have hb1 : Below w.heap.size w (w.alloc (.cells #[.int .i64 x.t, .int .i64 x.i, .string (strOf x.d)] 37)) := (Below.refl _ _).alloc (Nat.le_refl _) _
  have h1 := h.under hb1
  have H15 := hid (at_any h1 hb x.i)
  unfold evalue at H15
  obtain ⟨n0, n1, n2⟩ := new3 w (.int .i64 x.t) (.int .i64 x.i) (.string (strOf x.d)) 37
  have HC : Hid (∀ W, Below (w.alloc (.cells #[.int .i64 x.t, .int .i64 x.i, .string (strOf x.d)] 37)).heap.size (w.alloc (.cells #[.int .i64 x.t, .int .i64 x.i, .string (strOf x.d)] 37)) W → BegC W q w.heap.size v s x) := fun W hW => BegC.of (h1.under hW) (kept_blk hW)
  have HB1 := hid hb1
  have HM := hid h
  have HK := hid hk
  have HS := hid hs'
  have hq : Hid (q < w.heap.size) := h.lt
  have hlen := hb.len
  clear h h1 hb1 hk
  cases hA : atE s x.i with
  | none =>
    have HL : Hid (beginE s x = []) := by show _ = _; unfold beginE; rw [hA]
    rw [hA] at H15
    simp only [Option.getD_none, Option.isSome_none] at H15
    have HFin : Hid (∀ w4, Below w.heap.size w w4 → LAfter U w ((((w4.setCell ⟨q, 5, none⟩ (.slice none 0 0)).setCell ⟨q, 2, none⟩ (.int .i64 x.t)).setCell ⟨q, 3, none⟩ (.int .i64 x.i)).setCell ⟨q, 4, none⟩ (.string (strOf x.d))) q a s') := fun w4 h4 => begin_fin HM.out h4 (EL.nil w4) (by intro k hk; cases hk) x s' (by have := hs'; rw [HL.out] at this; exact this)
    clear hA hs' HS
    obtain ⟨t, i, d⟩ := x
    simp only at *
    go_enter Tryz.func33, Tryz.ntmps33
    go_wp2_with (go_at_call 14; refine H15.out.mono ?_; rintro e w2 ⟨rfl, hb2⟩; have hb3 := hb2.alloc hb2.size (.cells #[.int .i64 e0.t, .int .i64 e0.i, .string (strOf e0.d)] 37); have hq1 : ¬ q = w.heap.size := (by have := hq.out; omega); have hq2 : ¬ w.heap.size = q := (by have := hq.out; omega); obtain ⟨c2, c3, c4, c5, f2, f3, f4, f5, m0, m1, m2⟩ := HC.out _ hb3; have HB3 := hid (HB1.out.trans (hb3.mono HB1.out.size)); clear hb2 hb3)
    generalize w2.alloc (.cells #[.int .i64 e0.t, .int .i64 e0.i, .string (strOf e0.d)] 37) = W3 at *
    go_wp2_with fail
    go_end0
    exact ⟨rfl, HFin.out _ HB3.out⟩
  | some y =>
    obtain ⟨k, hki, hkl, hkx, _⟩ := atE_some hA
    rw [hA] at H15
    simp only [Option.getD_some, Option.isSome_some] at H15
    by_cases ht : y.t = x.t
    · have HL := hid (beginE_some HK.out hA ht)
      obtain ⟨oa, cap, rfl, hcap, hcm, hnn, hoa⟩ := HM.out.ents.shape
      obtain ⟨g, rfl⟩ := hoa (by omega)
      have hte : (y.t == x.t) = true := by simp [ht]
      have H47 : Hid (∀ W, Below (w.alloc (.cells #[.int .i64 x.t, .int .i64 x.i, .string (strOf x.d)] 37)).heap.size (w.alloc (.cells #[.int .i64 x.t, .int .i64 x.i, .string (strOf x.d)] 37)) W → Calls Tryz.prog 54 #[.slice (some ⟨g, 0, none⟩) s.list.length cap, .int .i64 x.i] W fun e w' => ∃ v', e = .returned v' ∧ (∃ oa n c, v' = .slice oa n c) ∧ BegC w' q w.heap.size (.slice (some ⟨g, 0, none⟩) s.list.length cap) s x ∧ Hid (LAfter U w ((((w'.setCell ⟨q, 5, none⟩ v').setCell ⟨q, 2, none⟩ (.int .i64 x.t)).setCell ⟨q, 3, none⟩ (.int .i64 x.i)).setCell ⟨q, 4, none⟩ (.string (strOf x.d))) q a s')) := fun W hW => by
        have hbW := HB1.out.trans (hW.mono HB1.out.size)
        refine (behind_any ((HM.out.under hbW).ents.at) hlen rfl hcap hcm x.i).mono ?_
        rintro e w' ⟨v', rfl, h1, h2, h3⟩
        have hs := hW.size
        have hs1 := HB1.out.size
        obtain ⟨oa', cap', e', _⟩ := h1.shape
        refine ⟨v', rfl, ⟨oa', _, cap', e'⟩, HC.out _ (hW.trans (h3.mono hs)), begin_fin HM.out (hbW.trans (h3.mono hbW.size)) h1 (fun k hk => by have := h2 k hk; omega) x s' (by rw [HL.out]; exact hs')⟩
      clear hA hs' HS HK HM HL ht hki hkx hoa hnn
      generalize s.list.length = N at *
      obtain ⟨t, i, d⟩ := x
      obtain ⟨t', i', d'⟩ := y
      simp only at *
      go_enter Tryz.func33, Tryz.ntmps33
      go_wp2_with (go_at_call 14; refine H15.out.mono ?_; rintro e w2 ⟨rfl, hb2⟩; have hb3 := hb2.alloc hb2.size (.cells #[.int .i64 t', .int .i64 i', .string (strOf d')] 37); have hq1 : ¬ q = w.heap.size := (by have := hq.out; omega); have hq2 : ¬ w.heap.size = q := (by have := hq.out; omega); obtain ⟨c2, c3, c4, c5, f2, f3, f4, f5, m0, m1, m2⟩ := HC.out _ hb3; obtain ⟨j0, j1, j2⟩ := new3 w2 (.int .i64 t') (.int .i64 i') (.string (strOf d')) 37; have HB3 := hid hb3; clear hb2 hb3)
      generalize w2.alloc (.cells #[.int .i64 t', .int .i64 i', .string (strOf d')] 37) = W3 at *
      go_wp2_with fail
      clear j0 j1 j2 c2 c3 c4 f2 f3 f4 f5 n0 n1 n2
      go_region_with (first
        | (go_at_call 54; refine (H47.out _ (by repeat (first | exact HB3.out | apply Below.drew))).mono ?_; rintro e w4 ⟨v4, rfl, ⟨oa4, n4, c4', rfl⟩, hbc, HL4⟩; obtain ⟨c2, c3, c4, p5, f2, f3, f4, f5, z0, z1, z2⟩ := hbc)
        | fail)
      all_goals
        go_wp2_with fail
        go_end0
        exact ⟨rfl, HL4.out⟩
    · have HL : Hid (beginE s x = []) := by show _ = _; unfold beginE; rw [hA]; simp only; rw [if_neg ht]
      have hte : (y.t == x.t) = false := by simp [ht]
      have HFin : Hid (∀ w4, Below w.heap.size w w4 → LAfter U w ((((w4.setCell ⟨q, 5, none⟩ (.slice none 0 0)).setCell ⟨q, 2, none⟩ (.int .i64 x.t)).setCell ⟨q, 3, none⟩ (.int .i64 x.i)).setCell ⟨q, 4, none⟩ (.string (strOf x.d))) q a s') := fun w4 h4 => begin_fin HM.out h4 (EL.nil w4) (by intro k hk; cases hk) x s' (by have := hs'; rw [HL.out] at this; exact this)
      clear hA hs' HS HK ht hki hkx
      obtain ⟨t, i, d⟩ := x
      obtain ⟨t', i', d'⟩ := y
      simp only at *
      go_enter Tryz.func33, Tryz.ntmps33
      go_wp2_with (go_at_call 14; refine H15.out.mono ?_; rintro e w2 ⟨rfl, hb2⟩; have hb3 := hb2.alloc hb2.size (.cells #[.int .i64 t', .int .i64 i', .string (strOf d')] 37); have hq1 : ¬ q = w.heap.size := (by have := hq.out; omega); have hq2 : ¬ w.heap.size = q := (by have := hq.out; omega); obtain ⟨c2, c3, c4, c5, f2, f3, f4, f5, m0, m1, m2⟩ := HC.out _ hb3; obtain ⟨j0, j1, j2⟩ := new3 w2 (.int .i64 t') (.int .i64 i') (.string (strOf d')) 37; have HB3 := hid (HB1.out.trans (hb3.mono HB1.out.size)); clear hb2 hb3)
      generalize w2.alloc (.cells #[.int .i64 t', .int .i64 i', .string (strOf d')] 37) = W3 at *
      go_wp2_with fail
      go_end0
      exact ⟨rfl, HFin.out _ HB3.out⟩
end Go.Proofs.YtclldpecbocclaaGreat

