/- Set of the document's timers. -/
import Derived.Test.YtohbnkghenlnoaaRdue
namespace Go.Proofs.Ytohbnkghenlnoaa
open Go.RowKit Go.Maps
set_option maxRecDepth 100000
set_option linter.unusedSimpArgs false
set_option linter.unusedVariables false

theorem ins_end (x : Tm) : ∀ p : List Tm, (∀ y ∈ p, bef x y = false) → ins x p = p ++ [x]
  | [], _ => rfl
  | y :: r, h => by
    unfold ins
    rw [h y (by simp), if_neg (by simp), ins_end x r (fun z hz => h z (by simp [hz]))]
    rfl
theorem ins_here (x z : Tm) : ∀ p : List Tm, (∀ y ∈ p, bef x y = false) → bef x z = true → ins x (p ++ [z]) = p ++ [x, z]
  | [], _, hz => by simp [ins, hz]
  | y :: r, h, hz => by
    show ins x (y :: (r ++ [z])) = _
    unfold ins
    rw [h y (by simp), if_neg (by simp), ins_here x z r (fun u hu => h u (by simp [hu])) hz]
    rfl
theorem ins_past (x z : Tm) : ∀ p : List Tm, (∃ y ∈ p, bef x y = true) → ins x (p ++ [z]) = ins x p ++ [z]
  | [], h => by simp at h
  | y :: r, h => by
    show ins x (y :: (r ++ [z])) = _
    unfold ins
    split
    · rfl
    · rename_i hb
      have : ∃ u ∈ r, bef x u = true := by
        obtain ⟨u, hu, hbu⟩ := h
        rcases List.mem_cons.1 hu with rfl | hu
        · exact absurd hbu hb
        · exact ⟨u, hu, hbu⟩
      rw [ins_past x z r this]
      rfl

/-- The list that is made: behind i of l's. -/
def OutL (x : Tm) (l : List Tm) (i : Nat) (o : List Tm) : Prop :=
  (o = l.take i ∧ ∀ y ∈ l.take i, bef x y = false) ∨ (o = ins x (l.take i) ∧ ∃ y ∈ l.take i, bef x y = true)

theorem take_g {l : List Tm} {i : Nat} (h : i < l.length) : l.take (i + 1) = l.take i ++ [g l i] := by rw [List.take_add_one, g_some h, Option.toList_some]

structure OutAt (W1 : World) (v : Value) (o : List Tm) (wr : World) : Prop where
  below : Below W1.heap.size W1 wr
  row : wr.ownsRow W1.heap.size 44 2 v o.length (flat o)

theorem OutAt.under {W1 : World} {v : Value} {o : List Tm} {wr w2 : World} (h : OutAt W1 v o wr) (hb : Below wr.heap.size wr w2) : OutAt W1 v o w2 := by
  refine ⟨h.below.trans (hb.mono h.below.size), h.row.1, ?_⟩
  rcases h.row.2 with h0 | ⟨b', cap', cur, e0, hb0, hg0, rest⟩
  · exact .inl h0
  · exact .inr ⟨b', cap', cur, e0, hb0, (hb.block b' (Array.getElem?_eq_some_iff.1 hg0).1).trans hg0, rest⟩
theorem OutAt.app {W1 : World} {v : Value} {o : List Tm} {wr : World} (h : OutAt W1 v o wr) (y : Tm) {v' : Value} {w2 : World} {ob : Obj} (hown : w2.ownsRow W1.heap.size 44 2 v' (o.length + 1) (flat o ++ tcells y)) (hg : (wr.alloc ob).grownBy w2 v.ownBlock) : OutAt W1 v' (o ++ [y]) w2 := by
  refine ⟨grown_own (xs := flat o) (ys := []) (m := 0) (v' := v') h.below h.row hg, ?_⟩
  rw [flat_append, List.length_append]
  exact hown
theorem row_base {w : World} {B B' n : Nat} {e : TypeId} {size : Nat} {v : Value} {xs : List Value} (h : w.ownsRow B e size v n xs) (hB : B' ≤ B) : w.ownsRow B' e size v n xs := by
  refine ⟨h.1, ?_⟩
  rcases h.2 with h0 | ⟨b', cap', cur, e0, hb0, rest⟩
  · exact .inl h0
  · exact .inr ⟨b', cap', cur, e0, by omega, rest⟩

set_option maxHeartbeats 4000000 in
theorem rset_any {w : World} {T : Nat → Prop} {r : Nat} {v : Value} {s : List Tm} (h : RT w T r v s) (hk : Keys s) (k t : Int) :
    Calls Try.prog 10 #[.pointer (some ⟨r, 0, none⟩), .int .i64 k, .int .i64 t] w fun e w' => e = .returned (.int .i64 (setE s k t)) ∧ RAfter T w w' r (setL s k t) := by
  have hsame := h.same (Below.refl _ w)
  have hfew := h.few
  have hrl := h.below r h.self
  by_cases ht : t < 0
  · have HE : Hid (setE s k t = 1) := by show _ = _; rw [setE, if_pos (.inl ht)]
    have HR : Hid (RAfter T w w r (setL s k t)) := by show RAfter T w w r (setL s k t); rw [setL, HE.out, if_neg (by decide)]; exact hsame
    clear h hsame hk
    go_enter Try.func10, Try.ntmps10
    go_wp2
    go_ret
    exact ⟨ret_int HE.out.symm, HR.out⟩
  by_cases ht2 : 1000000000 < t
  · have HE : Hid (setE s k t = 1) := by show _ = _; rw [setE, if_pos (.inr ht2)]
    have HR : Hid (RAfter T w w r (setL s k t)) := by show RAfter T w w r (setL s k t); rw [setL, HE.out, if_neg (by decide)]; exact hsame
    clear h hsame hk
    go_enter Try.func10, Try.ntmps10
    go_wp2
    go_ret
    exact ⟨ret_int HE.out.symm, HR.out⟩
  have htt : ¬ (t < 0 ∨ 1000000000 < t) := by omega
  have HW := hid (without_at h k)
  obtain ⟨ol, capl, rfl, _⟩ := h.row
  by_cases hfull : hasL s k = false ∧ 1000 ≤ s.length
  · have hd : del s k = s := del_none (hasL_false.1 hfull.1)
    have HE : Hid (setE s k t = 3) := by show _ = _; rw [setE, if_neg htt, hfull.1, if_neg (by simp), if_pos hfull.2]
    have HR : Hid (∀ w', Below w.heap.size w w' → RAfter T w w' r (setL s k t)) := fun w' hb => by rw [setL, HE.out, if_neg (by decide)]; exact h.same hb
    have hz1 : ((del s k).length : Int) = (s.length : Int) := by rw [hd]
    have hz2 : (1000 : Int) ≤ (s.length : Int) := by omega
    clear h hsame hk hd hfull
    go_enter Try.func10, Try.ntmps10
    go_wp2_with (go_at_call 23; refine HW.out.mono ?_; rintro e w' ⟨oa, cap, rfl, HB, c0, f0⟩)
    go_ret
    exact ⟨ret_int HE.out.symm, HR.out _ HB.out.1⟩
  · have HE : Hid (setE s k t = 0) := by
      show _ = _
      rw [setE, if_neg htt]
      cases hh : hasL s k with
      | true => rfl
      | false => rw [if_neg (by simp), if_neg (fun h2 => hfull ⟨hh, h2⟩)]
    have hne : (del s k).length < 1000 := by
      cases hh : hasL s k with
      | true => have := len_del' hk hh; omega
      | false => rw [del_none (hasL_false.1 hh)]; exact Nat.lt_of_not_le (fun h2 => hfull ⟨hh, h2⟩)
    have hnez : ¬ (1000 : Int) ≤ ((del s k).length : Int) := by omega
    have HR : Hid (∀ (w1 w2 : World) (v' : Value), Below w.heap.size w w1 → OutAt (w1.alloc (.cells #[.int .i64 k, .int .i64 t] 44)) v' (ins ⟨k, t⟩ (del s k)) w2 → RAfter T w (w2.setCell ⟨r, 0, none⟩ v') r (setL s k t)) := fun w1 w2 v' hb ho => by
      rw [setL, HE.out, if_pos rfl]
      have hb1 : Below w.heap.size w (w1.alloc (.cells #[.int .i64 k, .int .i64 t] 44)) := hb.alloc hb.size _
      exact h.stored (hb1.trans (ho.below.mono hb1.size)) (row_base ho.row hb1.size) rfl (by rw [len_ins]; omega)
    obtain ⟨i0, hi0, hz0, hz1, hz2⟩ := info_parts44
    clear h hsame hk hfull htt
    generalize hl : del s k = l at *
    clear hl
    by_cases hsl : (l.length : Int) = (s.length : Int)
    all_goals
      go_enter Try.func10, Try.ntmps10
      go_wp2_with (go_at_call 23; refine HW.out.mono ?_; rintro e w1 ⟨oa, cap, rfl, HB, c0, f0⟩)
      obtain ⟨W1, hW1⟩ : ∃ W1, W1 = w1.alloc (.cells #[.int .i64 k, .int .i64 t] 44) := ⟨_, rfl⟩
      rw [← hW1]
      have hsz1 : W1.heap.size = w1.heap.size + 1 := by rw [hW1]; simp
      have HX : Hid (∀ W, Below W1.heap.size W1 W → W.cell? ⟨w1.heap.size, 0, none⟩ = some (.int .i64 k) ∧ W.cell? ⟨w1.heap.size, 1, none⟩ = some (.int .i64 t)) := fun W hW =>
        ⟨(hW.cell (by show w1.heap.size < _; omega)).trans (by rw [hW1]; exact cell_new rfl rfl), (hW.cell (by show w1.heap.size < _; omega)).trans (by rw [hW1]; exact cell_new rfl rfl)⟩
      have HLr : Hid (0 < l.length → ∃ b, oa = some ⟨b, 0, none⟩ ∧ ∀ W, Below W1.heap.size W1 W → ∀ i, i < l.length → W.cell? ⟨b, i * 2, none⟩ = some (.int .i64 (g l i).key) ∧ W.cell? ⟨b, i * 2 + 1, none⟩ = some (.int .i64 (g l i).tick)) := fun h0 => by
        rcases HB.out.2.2 with ⟨e0, h1⟩ | ⟨b, cap', cur, e0, hb0, hg0, _⟩
        · omega
        · have ho : oa = some ⟨b, 0, none⟩ := by simp only [Value.slice.injEq] at e0; exact e0.1
          subst ho
          refine ⟨b, rfl, fun W hW i hi => ?_⟩
          obtain ⟨f0, f1⟩ := flat_at l i _ (g_some hi)
          have hbl := (Array.getElem?_eq_some_iff.1 hg0).1
          have hb1 : W.heap[b]? = w1.heap[b]? := (hW.block b (by omega)).trans (by rw [hW1]; exact Below.heap_alloc _ _ b hbl)
          exact ⟨(World.cell?_of_block (a := ⟨b, i * 2, none⟩) hb1).trans ((HB.out.2.cellAt _ (by omega)).trans f0), (World.cell?_of_block (a := ⟨b, i * 2 + 1, none⟩) hb1).trans ((HB.out.2.cellAt _ (by omega)).trans f1)⟩
      have HC : Hid (∀ W, Below W1.heap.size W1 W → W.cell? ⟨r, 0, none⟩ = some (.slice ol s.length capl) ∧ W.frozen? ⟨r, 0, none⟩ = false) := fun W hW => by
        have hb1 : W.heap[r]? = w1.heap[r]? := (hW.block r (by have := HB.out.1.size; omega)).trans (by rw [hW1]; exact Below.heap_alloc _ _ r (by have := HB.out.1.size; omega))
        exact ⟨(World.cell?_of_block (a := ⟨r, 0, none⟩) hb1).trans c0, (World.frozen?_of_block (a := ⟨r, 0, none⟩) hb1).trans f0⟩
      have HEnd : Hid (∀ (w2 : World) (v' : Value), OutAt W1 v' (ins ⟨k, t⟩ l) w2 → RAfter T w (w2.setCell ⟨r, 0, none⟩ v') r (setL s k t)) := fun w2 v' ho => by
        rw [hW1] at ho
        exact HR.out w1 w2 v' HB.out.1 ho
      clear HR HB HW hW1 c0 f0
      go_loopg [9, 10] l.length (fun kx s9 si wr => ∃ (i : Nat) (o : List Tm) (ob : Option Addr) (cb : Nat), i ≤ l.length ∧ l.length - i ≤ kx ∧ si = .int .i64 (i : Int) ∧ s9 = .slice ob o.length cb ∧ Hid (OutL ⟨k, t⟩ l i o) ∧ Hid (OutAt W1 (.slice ob o.length cb) o wr))
      case atStart => exact ⟨0, [], none, 0, Nat.zero_le _, by omega, rfl, rfl, .inl ⟨by simp, by simp⟩, .refl _ _, ⟨rfl, .inl ⟨rfl, rfl⟩⟩⟩
      case round =>
        obtain ⟨i, o, ob, cb, hi, hkx, rfl, rfl, HO, HI⟩ := hrel
        by_cases hlt : i < l.length
        · have hltz : (i : Int) < (l.length : Int) := by omega
          obtain ⟨bl, rfl, hcl⟩ := HLr.out (by omega)
          obtain ⟨q0, q1⟩ := hcl _ HI.out.below i hlt
          obtain ⟨x0', x1'⟩ := HX.out _ HI.out.below
          obtain ⟨y, hy⟩ : ∃ y, y = g l i := ⟨_, rfl⟩
          have HY : Hid (∀ W, Below W1.heap.size W1 W → W.cell? ⟨bl, i * 2, none⟩ = some (.int .i64 y.key) ∧ W.cell? ⟨bl, i * 2 + 1, none⟩ = some (.int .i64 y.tick)) := fun W hW => by rw [hy]; exact hcl W hW i hlt
          have htk : l.take (i + 1) = l.take i ++ [y] := by rw [hy]; exact take_g hlt
          rw [← hy] at q0 q1
          have hti : (l.take i).length = i := by simp; omega
          have HBf : Hid (∀ W, Calls Try.prog 24 #[.agg #[.int .i64 k, .int .i64 t], .agg #[.int .i64 y.key, .int .i64 y.tick]] W fun e w' => e = .returned (.bool (bef ⟨k, t⟩ y)) ∧ Below W.heap.size W w') := fun W => before_any ⟨k, t⟩ y W
          clear hy hcl HLr HEnd HC
          rcases HO.out with ⟨ho, hnb⟩ | ⟨ho, hib⟩
          · have HOL : Hid (o.length = i) := by show _ = _; rw [ho, hti]
            cases hb : bef ⟨k, t⟩ y with
            | true =>
              rw [hb] at HBf
              have HN : Hid (OutL ⟨k, t⟩ l (i + 1) (o ++ [⟨k, t⟩] ++ [y])) := .inr ⟨by rw [htk, ins_here _ _ _ hnb hb, ho]; simp, ⟨y, by rw [htk]; simp, hb⟩⟩
              have holz : (o.length : Int) = (i : Int) := by rw [HOL.out]
              clear HO htk hnb ho hb hti
              go_wp2_with fail
              refine region_tail 5 (by kernel_rfl) (by kernel_rfl) ?_
              simp only [List.take_succ_cons, List.take_zero, List.drop_succ_cons, List.drop_zero]
              repeat (go_big_quiet_step (fail))
              refine wpQuiet_nil ?_
              rintro _ ⟨nq, rfl⟩
              go_wp2_with (first
                | (go_at_call 24; refine (HBf.out _).mono ?_; rintro e w4 ⟨rfl, hb4⟩; have H4 : Hid (OutAt W1 (.slice ob o.length cb) o w4) := ((HI.out.under (below_drewN (Below.refl _ _) _)).under hb4); obtain ⟨x0, x1⟩ := HX.out _ H4.out.below; obtain ⟨y0, y1⟩ := HY.out _ H4.out.below; clear hb4)
                | (at_builtin; refine wpList_append_own _ rfl _ _ 27 rfl W1.heap.size 44 i0 _ 2 16 Try.underlying27 hi0 hz0 hz1 hz2 rfl (by decide) _ o.length (flat o) rfl (row_alloc (w := W1) H4.out.row _) ⟨w4.heap.size, 0, none⟩ 1 1 (tcells ⟨k, t⟩) rfl rfl (two_new (x := ⟨k, t⟩) rfl) (by simp [tcells, Value.oneCell']) (by have := HOL.out; unfold maxLen; omega) (by have := HOL.out; omega) (by have := H4.out.below.size; simp; omega) ?_; intro v5 w5 hown5 hg5 _; obtain ⟨ob5, cb5, rfl⟩ := row_shape hown5; have H5 := hid (H4.out.app ⟨k, t⟩ hown5 hg5); obtain ⟨z0, z1⟩ := HY.out _ H5.out.below; clear hown5 hg5)
                | (at_builtin; refine wpList_append_own _ rfl _ _ 27 rfl W1.heap.size 44 i0 _ 2 16 Try.underlying27 hi0 hz0 hz1 hz2 rfl (by decide) _ (o ++ [(⟨k, t⟩ : Tm)]).length (flat (o ++ [(⟨k, t⟩ : Tm)])) rfl (row_alloc (w := W1) H5.out.row _) ⟨w5.heap.size, 0, none⟩ 1 1 (tcells y) rfl rfl (two_new (x := y) rfl) (by simp [tcells, Value.oneCell']) (by have e1 : (o ++ [(⟨k, t⟩ : Tm)]).length = o.length + 1 := List.length_append; have := HOL.out; unfold maxLen; omega) (by have e1 : (o ++ [(⟨k, t⟩ : Tm)]).length = o.length + 1 := List.length_append; have := HOL.out; omega) (by have := H5.out.below.size; simp; omega) ?_; intro v6 w6 hown6 hg6 _; obtain ⟨ob6, cb6, rfl⟩ := row_shape hown6; have H6 := hid (H5.out.app y hown6 hg6); clear hown6 hg6))
              go_roundg (l.length - (i + 1))
              case measure => omega
              case rel => exact ⟨i + 1, o ++ [⟨k, t⟩] ++ [y], ob6, cb6, by omega, Nat.le_refl _, by go_num, by simp, HN, (by simpa using H6)⟩

            | false =>
              rw [hb] at HBf
              have HN : Hid (OutL ⟨k, t⟩ l (i + 1) (o ++ [y])) := .inl ⟨by rw [htk, ho], fun z hz => by
                rw [htk] at hz
                rcases List.mem_append.1 hz with hz | hz
                · exact hnb z hz
                · have : z = y := by simpa using hz
                  rw [this]; exact hb⟩
              clear HO htk hnb ho hb hti
              go_wp2_with fail
              refine region_tail 5 (by kernel_rfl) (by kernel_rfl) ?_
              simp only [List.take_succ_cons, List.take_zero, List.drop_succ_cons, List.drop_zero]
              repeat (go_big_quiet_step (fail))
              refine wpQuiet_nil ?_
              rintro _ ⟨nq, rfl⟩
              go_wp2_with (first
                | (go_at_call 24; refine (HBf.out _).mono ?_; rintro e w4 ⟨rfl, hb4⟩; have H4 : Hid (OutAt W1 (.slice ob o.length cb) o w4) := ((HI.out.under (below_drewN (Below.refl _ _) _)).under hb4); obtain ⟨x0, x1⟩ := HX.out _ H4.out.below; obtain ⟨y0, y1⟩ := HY.out _ H4.out.below; clear hb4)
                | (at_builtin; refine wpList_append_own _ rfl _ _ 27 rfl W1.heap.size 44 i0 _ 2 16 Try.underlying27 hi0 hz0 hz1 hz2 rfl (by decide) _ o.length (flat o) rfl (row_alloc (w := W1) H4.out.row _) ⟨w4.heap.size, 0, none⟩ 1 1 (tcells y) rfl rfl (two_new (x := y) rfl) (by simp [tcells, Value.oneCell']) (by have := HOL.out; unfold maxLen; omega) (by have := HOL.out; omega) (by have := H4.out.below.size; simp; omega) ?_; intro v6 w6 hown6 hg6 _; obtain ⟨ob6, cb6, rfl⟩ := row_shape hown6; have H6 := hid (H4.out.app y hown6 hg6); clear hown6 hg6))
              go_roundg (l.length - (i + 1))
              case measure => omega
              case rel => exact ⟨i + 1, o ++ [y], ob6, cb6, by omega, Nat.le_refl _, by go_num, by simp, HN, (by simpa using H6)⟩

          · have HOL : Hid (o.length = i + 1) := by show _ = _; rw [ho, len_ins, hti]
            have HN : Hid (OutL ⟨k, t⟩ l (i + 1) (o ++ [y])) := .inr ⟨by rw [htk, ins_past _ _ _ hib, ho], by obtain ⟨z, hz, hbz⟩ := hib; exact ⟨z, by rw [htk]; simp [hz], hbz⟩⟩
            have holz : ¬ (o.length : Int) = (i : Int) := by rw [HOL.out]; omega
            clear HO htk hib ho hti
            cases hb : bef ⟨k, t⟩ y
            all_goals
              rw [hb] at HBf
              clear hb
              go_wp2_with fail
              refine region_tail 5 (by kernel_rfl) (by kernel_rfl) ?_
              simp only [List.take_succ_cons, List.take_zero, List.drop_succ_cons, List.drop_zero]
              repeat (go_big_quiet_step (fail))
              refine wpQuiet_nil ?_
              rintro _ ⟨nq, rfl⟩
              go_wp2_with (first
                | (go_at_call 24; refine (HBf.out _).mono ?_; rintro e w4 ⟨rfl, hb4⟩; have H4 : Hid (OutAt W1 (.slice ob o.length cb) o w4) := ((HI.out.under (below_drewN (Below.refl _ _) _)).under hb4); obtain ⟨x0, x1⟩ := HX.out _ H4.out.below; obtain ⟨y0, y1⟩ := HY.out _ H4.out.below; clear hb4)
                | (at_builtin; refine wpList_append_own _ rfl _ _ 27 rfl W1.heap.size 44 i0 _ 2 16 Try.underlying27 hi0 hz0 hz1 hz2 rfl (by decide) _ o.length (flat o) rfl (row_alloc (w := W1) H4.out.row _) ⟨w4.heap.size, 0, none⟩ 1 1 (tcells y) rfl rfl (two_new (x := y) rfl) (by simp [tcells, Value.oneCell']) (by have := HOL.out; unfold maxLen; omega) (by have := HOL.out; omega) (by have := H4.out.below.size; simp; omega) ?_; intro v6 w6 hown6 hg6 _; obtain ⟨ob6, cb6, rfl⟩ := row_shape hown6; have H6 := hid (H4.out.app y hown6 hg6); clear hown6 hg6))
              go_roundg (l.length - (i + 1))
              case measure => omega
              case rel => exact ⟨i + 1, o ++ [y], ob6, cb6, by omega, Nat.le_refl _, by go_num, by simp, HN, (by simpa using H6)⟩

        · have hltz : ¬ (i : Int) < (l.length : Int) := by omega
          have hil : i = l.length := by omega
          subst hil
          obtain ⟨x0, x1⟩ := HX.out _ HI.out.below
          obtain ⟨c0, f0⟩ := HC.out _ HI.out.below
          rcases HO.out with ⟨ho, hnb⟩ | ⟨ho, hib⟩
          · rw [List.take_length] at ho hnb
            have HOL : Hid (o.length = l.length) := by show _ = _; rw [ho]
            have holz : (o.length : Int) = (l.length : Int) := by rw [HOL.out]
            have HF : Hid (o ++ [⟨k, t⟩] = ins ⟨k, t⟩ l) := by show _ = _; rw [ho, ins_end _ _ hnb]
            clear HO hnb ho HLr
            go_wp2_with (at_builtin; refine wpList_append_own _ rfl _ _ 27 rfl W1.heap.size 44 i0 _ 2 16 Try.underlying27 hi0 hz0 hz1 hz2 rfl (by decide) _ o.length (flat o) rfl (row_alloc (w := W1) HI.out.row _) ⟨wr.heap.size, 0, none⟩ 1 1 (tcells ⟨k, t⟩) rfl rfl (two_new (x := ⟨k, t⟩) rfl) (by simp [tcells, Value.oneCell']) (by have := HOL.out; unfold maxLen; omega) (by have := HOL.out; omega) (by have := HI.out.below.size; simp; omega) ?_; intro v5 w5 hown5 hg5 _; obtain ⟨ob5, cb5, rfl⟩ := row_shape hown5; have H5 := hid (HI.out.app ⟨k, t⟩ hown5 hg5); obtain ⟨z0, z1⟩ := HC.out _ H5.out.below; clear hown5 hg5)
            go_ret
            have h6 : OutAt W1 (.slice ob5 (o.length + 1) cb5) (ins ⟨k, t⟩ l) w5 := by rw [← HF.out]; exact H5.out
            exact ⟨ret_int HE.out.symm, HEnd.out _ _ h6⟩
          · rw [List.take_length] at ho
            have HOL : Hid (o.length = l.length + 1) := by show _ = _; rw [ho, len_ins]
            have holz : ¬ (o.length : Int) = (l.length : Int) := by rw [HOL.out]; omega
            have HF := hid ho
            clear HO ho HLr hib
            go_wp2
            go_ret
            have h6 : OutAt W1 (.slice ob o.length cb) (ins ⟨k, t⟩ l) wr := by rw [← HF.out]; exact HI.out
            exact ⟨ret_int HE.out.symm, HEnd.out _ _ h6⟩

end Go.Proofs.Ytohbnkghenlnoaa
