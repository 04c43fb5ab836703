/- New, Set and Cancel of the timers, said of the list in order. -/
import Derived.Test.YtohbnkghenlnoaaApi
namespace Go.Proofs.Ytohbnkghenlnoaa
open Go.RowKit Go.Maps
set_option maxRecDepth 100000
set_option linter.unusedSimpArgs false
set_option linter.unusedVariables false

def setE (s : List Tm) (k t : Int) : Int := if t < 0 ∨ 1000000000 < t then 1 else if hasL s k then 0 else if 1000 ≤ s.length then 3 else 0
def setL (s : List Tm) (k t : Int) : List Tm := if setE s k t = 0 then ins ⟨k, t⟩ (del s k) else s
def cancE (s : List Tm) (k : Int) : Int := if hasL s k then 0 else 8

theorem Agree.set {ps : List (Int × Int)} {l : List Tm} (h : Agree ps l) {i : Nat} (hi : i < l.length) (t : Int) : Agree ps (l.set i ⟨(g l i).key, t⟩) := by
  have hg : ∀ j, (g (l.set i ⟨(g l i).key, t⟩) j).key = (g l j).key := fun j => by
    rw [g_set l i j _ hi]
    split
    · rename_i e; rw [e]
    · rfl
  refine ⟨by rw [List.length_set]; exact h.len, h.apart, fun j hj => ?_, fun p hp => ?_⟩
  · rw [hg]; exact h.here j (by simpa using hj)
  · obtain ⟨j, hj, rfl⟩ := h.there p hp
    exact ⟨j, by simpa using hj, by rw [hg]⟩

/-- A timer's tick written in its place. -/
theorem QM.ticked {w : World} {S : Nat → Prop} {a b cap : Nat} {mo : Option Nat} {l : List Tm} {ps : List (Int × Int)} (h : QM w S a (.slice (some ⟨b, 0, none⟩) l.length cap) mo l ps) (hb : b ≠ a) (i : Nat) (hi : i < l.length) (t : Int) :
    QM (w.setCell ⟨b, i * 2 + 1, none⟩ (.int .i64 t)) S a (.slice (some ⟨b, 0, none⟩) l.length cap) mo (l.set i ⟨(g l i).key, t⟩) ps ∧ Keeps S w (w.setCell ⟨b, i * 2 + 1, none⟩ (.int .i64 t)) := by
  have hSb : S b := h.rowS b rfl
  have hsz : (w.setCell ⟨b, i * 2 + 1, none⟩ (.int .i64 t)).heap.size = w.heap.size := by simp [World.setCell]
  have hbk : ∀ k, k ≠ b → (w.setCell ⟨b, i * 2 + 1, none⟩ (.int .i64 t)).heap[k]? = w.heap[k]? := fun k hk => Below.heap_setCell _ _ _ k hk
  have r1 := (h.row.stored (i * 2 + 1) (.int .i64 t)).1
  rw [flat_set1 l i (g l i) t (g_some hi)] at r1
  refine ⟨⟨fun k hk => by rw [hsz]; exact h.below k hk, h.self, (hbk a hb.symm).trans h.cells, by rw [List.length_set]; exact r1, h.rowS, h.map.kept (fun m e => ?_), h.mapS, h.agree.set hi t, by rw [List.length_set]; exact h.few, fun x hx => ?_⟩,
    ⟨rfl, rfl, rfl, by rw [hsz]; exact Nat.le_refl _, fun k hk hS => hbk k (fun e => hS (e ▸ hSb))⟩⟩
  · refine hbk m (fun e2 => ?_)
    subst e; subst e2
    obtain ⟨es, clock, hm, _⟩ := h.map
    rcases h.row.2 with ⟨e0, _⟩ | ⟨b', cap', cur, e0, _, hg0, _⟩
    · cases e0
    · have : b' = m := by simp only [Value.slice.injEq, Option.some.injEq, Addr.mk.injEq] at e0; exact e0.1.1.symm
      subst this; rw [hm] at hg0; cases hg0
  · rcases List.mem_or_eq_of_mem_set hx with hx | rfl
    · exact h.rng x hx
    · exact (h.rng (g l i) (g_mem hi) : I64 (g l i).key)

theorem new_any (w : World) : Calls Try.prog 7 #[] w fun e w' => e = .returned (.pointer (some ⟨w.heap.size, 0, none⟩)) ∧ TA w' (fun k => k = w.heap.size) w.heap.size [] ∧ Below w.heap.size w w' := by
  go_enter Try.func7, Try.ntmps7
  go_wp2
  go_ret
  refine ⟨rfl, ⟨.slice none 0 0, none, [], [], ⟨(fun k hk => by subst hk; simp), rfl, ?_, ⟨rfl, .inl ⟨rfl, rfl⟩⟩, (fun k hk => by simp [Value.ownBlock] at hk), rfl, (fun b e => by cases e), ⟨rfl, List.Pairwise.nil, (fun i hi => by simp at hi), (fun p hp => by simp at hp)⟩, by simp, (fun x hx => by simp at hx)⟩,
    fun k _ hk => by simp at hk, .refl _, List.Pairwise.nil⟩, (Below.refl _ w).alloc (Nat.le_refl _) _⟩
  show (w.heap.push _)[w.heap.size]? = _
  simp

theorem QAt.move {w wx : World} {S : Nat → Prop} {a : Nat} {v : Value} {mo : Option Nat} {l : List Tm} {w0 : World} (h : QAt w wx S a v mo l) (hk : Keeps S w0 w) : QAt w0 wx S a v mo l := by
  obtain ⟨ps, hq, hk2⟩ := h
  exact ⟨ps, hq, hk.trans hk2⟩

set_option maxHeartbeats 1600000 in
theorem set_any {w : World} {S : Nat → Prop} {a : Nat} {s : List Tm} (h : TA w S a s) (k t : Int) (hk : I64 k) :
    Calls Try.prog 9 #[.pointer (some ⟨a, 0, none⟩), .int .i64 k, .int .i64 t] w fun e w' => e = .returned (.int .i64 (setE s k t)) ∧ TAfter S w w' a (setL s k t) := by
  have hsame := h.same
  have HLn := hid (tlen_any h)
  have hslen := h.len
  by_cases ht : t < 0
  · have HE : Hid (setE s k t = 1) := by show _ = _; rw [setE, if_pos (.inl ht)]
    have HR : Hid (TAfter S w w a (setL s k t)) := by show TAfter S w w a (setL s k t); rw [setL, HE.out, if_neg (by decide)]; exact hsame
    clear h hsame HLn
    go_enter Try.func9, Try.ntmps9
    go_wp2
    go_ret
    exact ⟨ret_int HE.out.symm, HR.out⟩
  by_cases ht2 : 1000000000 < t
  · have HE : Hid (setE s k t = 1) := by show _ = _; rw [setE, if_pos (.inr ht2)]
    have HR : Hid (TAfter S w w a (setL s k t)) := by show TAfter S w w a (setL s k t); rw [setL, HE.out, if_neg (by decide)]; exact hsame
    clear h hsame HLn
    go_enter Try.func9, Try.ntmps9
    go_wp2
    go_ret
    exact ⟨ret_int HE.out.symm, HR.out⟩
  have htt : ¬ (t < 0 ∨ 1000000000 < t) := by omega
  obtain ⟨v, mo, l, ps, hq, hh, hp, hs⟩ := h
  have c1 := hq.c1
  have hlook := hq.map.look_ok k hk
  have hkeysl := hq.agree.keys
  rcases hq.look k with ⟨i, hi, hki, hpl⟩ | ⟨hn, hpl⟩
  · rw [pval, hpl] at hlook
    simp only [Option.getD_some, Option.isSome_some] at hlook
    have hhas : hasL s k = true := hasL_iff.2 ⟨g l i, hp.mem_iff.1 (g_mem hi), hki⟩
    have HE : Hid (setE s k t = 0) := by show _ = _; rw [setE, if_neg htt, if_pos hhas]
    obtain ⟨oa, cap, rfl, hcap, hcm, hoa, _⟩ := hq.shape
    obtain ⟨b, rfl, _, hba⟩ := hoa (by omega)
    have c0 := hq.c0
    obtain ⟨i0, i1⟩ := hq.at_ i hi
    have hfz := hq.row.frozenAt (i * 2 + 1)
    have hiz : (i : Int) < (l.length : Int) := by omega
    obtain ⟨hq1, hk1⟩ := hq.ticked hba i hi t
    have hl1 : (l.set i ⟨(g l i).key, t⟩).length = l.length := List.length_set
    have HFix := hid (fix_any (S := S) (w := w.setCell ⟨b, i * 2 + 1, none⟩ (.int .i64 t)) ⟨ps, hq1, .refl _ _⟩ i (by rw [hl1]; exact hi))
    have HR : Hid (∀ w', QAt (w.setCell ⟨b, i * 2 + 1, none⟩ (.int .i64 t)) w' S a (.slice (some ⟨b, 0, none⟩) l.length cap) mo (fixL (l.set i ⟨(g l i).key, t⟩) i (l.set i ⟨(g l i).key, t⟩).length) → TAfter S w w' a (setL s k t)) := fun w' hq' => by
      obtain ⟨ps', hq2, hk2⟩ := hq'
      obtain ⟨f1, f2⟩ := fixL_perm (l := l.set i ⟨(g l i).key, t⟩) (n := (l.set i ⟨(g l i).key, t⟩).length) (i := i) (Nat.le_refl _) (by rw [hl1]; exact hi)
      refine ⟨S, ⟨_, _, _, ps', hq2, ?_, ?_, ?_⟩, fun k hk => .inl hk, fun k hk => hk, hk1.trans hk2⟩
      · rw [f1.length_eq]
        refine fix_heap (Nat.le_refl _) (by rw [hl1]; exact hi) ?_
        rw [hl1]
        exact hh.set i hi _
      · rw [setL, HE.out, if_pos rfl]
        refine f1.trans (.trans ?_ (ins_perm _ _).symm)
        rw [hki]
        have := set_perm ⟨k, t⟩ l i hkeysl hi
        rw [hki] at this
        exact this.trans ((del_perm hp k).cons _)
      · rw [setL, HE.out, if_pos rfl]
        exact ins_sorted _ _ (del_sorted hs k) (fun y hy => fun e => (mem_del.1 hy).2 e.symm)
    clear hq hh hp hs hoa hpl hki hq1 hk1 hkeysl hhas htt hl1 hsame HLn
    unfold qi at HFix
    go_enter Try.func9, Try.ntmps9
    go_wp2_with (go_at_call 21; refine HFix.out.mono ?_; rintro e w' ⟨rfl, hq'⟩; have HQ := hid (HR.out w' hq'); clear hq')
    go_ret
    exact ⟨ret_int HE.out.symm, HQ.out⟩
  · rw [pval, hpl] at hlook
    simp only [Option.getD_none, Option.isSome_none] at hlook
    have hns : ∀ x ∈ s, x.key ≠ k := fun x hx => hn x (hp.mem_iff.2 hx)
    have hhas : hasL s k = false := hasL_false.2 hns
    by_cases hfull : 1000 ≤ s.length
    · have HE : Hid (setE s k t = 3) := by show _ = _; rw [setE, if_neg htt, hhas, if_neg (by simp), if_pos hfull]
      have HR : Hid (TAfter S w w a (setL s k t)) := by show TAfter S w w a (setL s k t); rw [setL, HE.out, if_neg (by decide)]; exact hsame
      have hfz : (1000 : Int) ≤ (s.length : Int) := by omega
      clear hq hh hp hs hpl hkeysl hhas htt hn hns hsame
      go_enter Try.func9, Try.ntmps9
      go_wp2_with (go_at_call 18; refine HLn.out.mono ?_; rintro e w' ⟨rfl, rfl⟩)
      go_ret
      exact ⟨ret_int HE.out.symm, HR.out⟩
    · have HE : Hid (setE s k t = 0) := by show _ = _; rw [setE, if_neg htt, hhas, if_neg (by simp), if_neg hfull]
      have hfz : ¬ (1000 : Int) ≤ (s.length : Int) := by omega
      have hll := hp.length_eq
      have HPush := hid (hpush_any hq ⟨k, t⟩ (fun y hy => hn y hy) hk (by omega))
      have HR : Hid (∀ w', After S w w' a (upL (l ++ [⟨k, t⟩]) l.length) → TAfter S w w' a (setL s k t)) := fun w' ⟨S', v', mo', ps', hq2, r1, r2, r3⟩ => by
        refine ⟨S', ⟨_, _, _, ps', hq2, ?_, ?_, ?_⟩, r1, r2, r3⟩
        · rw [upL_len, List.length_append]
          exact up_heap (l.length + 1) l.length (l ++ [⟨k, t⟩]) (by simp) (by omega) (hh.push _)
        · rw [setL, HE.out, if_pos rfl, del_none hns]
          exact (upL_perm _ _ (by simp)).trans ((List.perm_append_singleton _ _).trans ((hp.cons _).trans (ins_perm _ _).symm))
        · rw [setL, HE.out, if_pos rfl]
          exact ins_sorted _ _ (del_sorted hs k) (fun y hy => fun e => (mem_del.1 hy).2 e.symm)
      clear hq hh hp hs hpl hkeysl hhas htt hn hns hsame
      unfold qi tval at HPush
      go_enter Try.func9, Try.ntmps9
      go_wp2_with (first
        | (go_at_call 18; refine HLn.out.mono ?_; rintro e w' ⟨rfl, rfl⟩)
        | (go_at_call 22; refine HPush.out.mono ?_; rintro e w' ⟨rfl, hq'⟩; have HQ := hid (HR.out w' hq'); clear hq'))
      go_ret
      exact ⟨ret_int HE.out.symm, HQ.out⟩

set_option maxHeartbeats 800000 in
theorem cancel_any {w : World} {S : Nat → Prop} {a : Nat} {s : List Tm} (h : TA w S a s) (k : Int) (hk : I64 k) :
    Calls Try.prog 11 #[.pointer (some ⟨a, 0, none⟩), .int .i64 k] w fun e w' => e = .returned (.int .i64 (cancE s k)) ∧ TAfter S w w' a (del s k) := by
  have hsame := h.same
  obtain ⟨v, mo, l, ps, hq, hh, hp, hs⟩ := h
  have c1 := hq.c1
  have hlook := hq.map.look_ok k hk
  have hkeysl := hq.agree.keys
  rcases hq.look k with ⟨i, hi, hki, hpl⟩ | ⟨hn, hpl⟩
  · rw [pval, hpl] at hlook
    simp only [Option.getD_some, Option.isSome_some] at hlook
    have hhas : hasL s k = true := hasL_iff.2 ⟨g l i, hp.mem_iff.1 (g_mem hi), hki⟩
    have HE : Hid (cancE s k = 0) := by show _ = _; rw [cancE, if_pos hhas]
    obtain ⟨n, hn⟩ : ∃ n, n + 1 = l.length := ⟨l.length - 1, by omega⟩
    have HRem := hid (hrem_any (S := S) (w := w) ⟨ps, hq, .refl _ _⟩ i n hn (by omega))
    have HR : Hid (∀ w' v', QAt w w' S a v' mo ((remL l i n).take n) → TAfter S w w' a (del s k)) := fun w' v' ⟨ps', hq2, hk2⟩ => by
      refine ⟨S, ⟨_, _, _, ps', hq2, ?_, ?_, del_sorted hs k⟩, fun k hk => .inl hk, fun k hk => hk, hk2⟩
      · unfold remL
        split
        · exact Heap.take (fun k a b => hh k a (by omega)) (by omega)
        · rename_i hne
          have hsl := swp_len l i n
          obtain ⟨f1, _⟩ := fixL_perm (l := swp l i n) (n := n) (i := i) (by omega) (by omega)
          refine Heap.take (fix_heap (by omega) (by omega) (Heap.drop (by rw [hn]; exact hh) i (by omega) hn)) ?_
          rw [f1.length_eq]; omega
      · refine .trans ?_ (del_perm hp k)
        rw [← hki]
        unfold remL
        split
        · rename_i e
          subst e
          exact dropped_perm hkeysl (.refl _) hn hi rfl
        · rename_i hne
          have hsl := swp_len l i n
          obtain ⟨f1, f2⟩ := fixL_perm (l := swp l i n) (n := n) (i := i) (by omega) (by omega)
          refine dropped_perm hkeysl (f1.trans (swp_perm l i n hi (by omega))) hn hi ?_
          rw [f2 n (Nat.le_refl _), g_swp l i n n hi (by omega), if_pos rfl]
    clear hq hh hp hs hpl hki hkeysl hhas hsame
    unfold qi at HRem
    go_enter Try.func11, Try.ntmps11
    go_wp2_with (go_at_call 25; refine HRem.out.mono ?_; rintro e w' ⟨⟨x, rfl⟩, v', hq'⟩; have HQ := hid (HR.out w' v' hq'); clear hq')
    go_ret
    exact ⟨ret_int HE.out.symm, HQ.out⟩
  · rw [pval, hpl] at hlook
    simp only [Option.getD_none, Option.isSome_none] at hlook
    have hns : ∀ x ∈ s, x.key ≠ k := fun x hx => hn x (hp.mem_iff.2 hx)
    have hhas : hasL s k = false := hasL_false.2 hns
    have HE : Hid (cancE s k = 8) := by show _ = _; rw [cancE, hhas]; rfl
    have HR : Hid (TAfter S w w a (del s k)) := by show TAfter S w w a (del s k); rw [del_none hns]; exact hsame
    clear hq hh hp hs hpl hkeysl hhas hn hns hsame
    go_enter Try.func11, Try.ntmps11
    go_wp2
    go_ret
    exact ⟨ret_int HE.out.symm, HR.out⟩

end Go.Proofs.Ytohbnkghenlnoaa
