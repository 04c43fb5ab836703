/- Due of the timers, said of the list in order. -/
import Derived.Test.YtohbnkghenlnoaaSet
namespace Go.Proofs.Ytohbnkghenlnoaa
open Go.RowKit Go.Maps
set_option maxRecDepth 100000
set_option linter.unusedSimpArgs false
set_option linter.unusedVariables false

def dueL (s : List Tm) (now : Int) : List Tm := s.takeWhile fun x => decide (x.tick ≤ now)
def restL (s : List Tm) (now : Int) : List Tm := s.dropWhile fun x => decide (x.tick ≤ now)
def keyCells (s : List Tm) : List Value := s.map fun x => .int .i64 x.key

theorem due_split (now : Int) : ∀ (s : List Tm) (k : Nat), k ≤ s.length → (∀ x ∈ s.take k, x.tick ≤ now) → (∀ x, s[k]? = some x → now < x.tick) → dueL s now = s.take k ∧ restL s now = s.drop k
  | [], k, _, _, _ => by simp [dueL, restL]
  | x :: r, 0, _, _, h => by
    have := h x rfl
    have e : decide (x.tick ≤ now) = false := by simpa using this
    simp [dueL, restL, e]
  | x :: r, k + 1, hk, h1, h2 => by
    have e : decide (x.tick ≤ now) = true := by simpa using h1 x (by simp)
    obtain ⟨i1, i2⟩ := due_split now r k (by simpa using hk) (fun y hy => h1 y (by simp [hy])) (fun y hy => h2 y (by simpa using hy))
    unfold dueL restL at *
    rw [List.takeWhile_cons, List.dropWhile_cons, e, if_pos rfl, if_pos rfl]
    simp [i1, i2]

/-- heap.Pop: what is due first is told, and is gone. -/
theorem tpop_any {w : World} {S : Nat → Prop} {a : Nat} {x : Tm} {r : List Tm} (h : TA w S a (x :: r)) :
    Calls Try.prog 26 #[qi a] w fun e w' => e = .returned (.iface 54 (tval x)) ∧ TA w' S a r ∧ Keeps S w w' := by
  obtain ⟨v, mo, l, ps, hq, hh, hp, hs⟩ := h
  obtain ⟨e0, hl⟩ := root_is hh hp hs rfl
  have hkeys := hq.agree.keys
  obtain ⟨n, hn⟩ : ∃ n, n + 1 = l.length := ⟨l.length - 1, by omega⟩
  have hsl := swp_len l 0 n
  have hsw := swp_perm l 0 n hl (by omega)
  have hgn : g (swp l 0 n) n = g l 0 := by rw [g_swp l 0 n n hl (by omega), if_pos rfl]
  refine (hpop_any (S := S) (w := w) ⟨ps, hq, .refl _ _⟩ n hn).mono ?_
  rintro e w' ⟨rfl, v', ps', hq', hk'⟩
  -- what down does of the rest
  have hd : (downL (swp l 0 n) 0 n).1.Perm (swp l 0 n) ∧ g (downL (swp l 0 n) 0 n).1 n = g (swp l 0 n) n ∧ Heap (downL (swp l 0 n) 0 n).1 n := by
    by_cases h0 : n = 0
    · subst h0
      rw [downL_end (by omega)]
      exact ⟨.refl _, rfl, fun k a b => by omega⟩
    · obtain ⟨d1, d2⟩ := downL_keep n _ 0 (swp l 0 n) (Nat.le_refl _) (by omega) (by omega)
      refine ⟨d1, d2 n (Nat.le_refl _), down_heap n _ 0 _ (Nat.le_refl _) (by omega) ?_⟩
      have hf := Heap.drop (l := l) (n := n) (by rw [hn]; exact hh) 0 (by omega) hn
      exact ⟨fun k a b c => hf.1 k a b (by omega) c, hf.2⟩
  obtain ⟨d1, d2, d3⟩ := hd
  rw [hgn, e0] at d2
  refine ⟨by rw [d2], ⟨_, _, _, ps', hq', Heap.take d3 (by rw [d1.length_eq, hsl]; omega), ?_, (List.pairwise_cons.1 hs).2⟩, hk'⟩
  have h1 := dropped_perm hkeys (d1.trans hsw) hn hl (by rw [d2, e0])
  rw [e0] at h1
  have h2 : (x :: del l x.key).Perm (x :: r) := by
    have := self_perm l 0 hkeys hl
    rw [e0] at this
    exact this.symm.trans hp
  exact h1.trans h2.cons_inv

theorem info_parts3 : ∃ i, Try.prog.info? 3 = some i ∧ i.zero = some (.int .i64 0) ∧ i.size = 1 ∧ i.bytes = 8 := ⟨_, rfl, rfl, rfl, rfl⟩

theorem one_new {w1 : World} {o : Obj} {v : Value} {t : TypeId} {b : Nat} (hb : b = w1.heap.size + 1) : ∀ (j : Nat) (u : Value), [v][j]? = some u → ((w1.alloc o).alloc (.cells #[v] t)).cell? ((⟨b, 0, none⟩ : Addr).add j) = some u := fun j u hu => by
  have hadd : (⟨b, 0, none⟩ : Addr).add j = ⟨b, j, none⟩ := by unfold Addr.add; split <;> simp_all
  rw [hadd]
  exact cell_new (by simp [hb]) (by simpa using hu)

/-- Where Due stands behind k timers. -/
structure DueAt (w : World) (S : Nat → Prop) (a : Nat) (s : List Tm) (now : Int) (k : Nat) (v : Value) (wr : World) : Prop where
  row : wr.ownsRow w.heap.size 3 1 v k (keyCells (s.take k))
  ta : TA wr S a (s.drop k)
  keeps : Keeps S w wr
  due : ∀ x ∈ s.take k, x.tick ≤ now

theorem row_below {w wr w1 : World} {S : Nat → Prop} {e : TypeId} {size n : Nat} {v : Value} {xs : List Value} (h : wr.ownsRow w.heap.size e size v n xs) (hS : ∀ k, S k → k < w.heap.size) (hk : Keeps S wr w1) : w1.ownsRow w.heap.size e size v n xs := by
  refine ⟨h.1, ?_⟩
  rcases h.2 with h0 | ⟨b', cap', cur, e0, hb0, hg0, rest⟩
  · exact .inl h0
  · exact .inr ⟨b', cap', cur, e0, hb0, (hk.block b' (Array.getElem?_eq_some_iff.1 hg0).1 (fun h => by have := hS b' h; omega)).trans hg0, rest⟩

/-- A round of Due: the first is told, taken, and its key appended. -/
theorem DueAt.next {w : World} {S : Nat → Prop} {a : Nat} {s : List Tm} {now : Int} {k : Nat} {v : Value} {wr : World} (h : DueAt w S a s now k v wr) (hS : ∀ k, S k → k < w.heap.size) {x : Tm} (hx : s[k]? = some x) (hd : x.tick ≤ now) (w1 : World) (h1 : TA w1 S a (s.drop (k + 1))) (k1 : Keeps S wr w1) :
    (∀ o o2, ((w1.alloc o).alloc o2).ownsRow w.heap.size 3 1 v k (keyCells (s.take k))) ∧ w.heap.size ≤ w1.heap.size ∧
    ∀ o o2 v' w2, w2.ownsRow w.heap.size 3 1 v' (k + 1) (keyCells (s.take k) ++ [.int .i64 x.key]) → ((w1.alloc o).alloc o2).grownBy w2 v.ownBlock → DueAt w S a s now (k + 1) v' w2 := by
  have hr1 := row_below h.row hS k1
  have hsz : w.heap.size ≤ w1.heap.size := Nat.le_trans h.keeps.size k1.size
  have hA : ∀ o o2 k, k < w1.heap.size → ((w1.alloc o).alloc o2).heap[k]? = w1.heap[k]? := fun o o2 k hk => (Below.heap_alloc _ o2 k (by simp; omega)).trans (Below.heap_alloc _ o k hk)
  refine ⟨fun o o2 => ⟨hr1.1, ?_⟩, hsz, fun o o2 v' w2 hown hg => ?_⟩
  · rcases hr1.2 with h0 | ⟨b', cap', cur, e0, hb0, hg0, rest⟩
    · exact .inl h0
    · exact .inr ⟨b', cap', cur, e0, hb0, (hA o o2 b' (Array.getElem?_eq_some_iff.1 hg0).1).trans hg0, rest⟩
  · have hvb : ∀ q, v.ownBlock = some q → w.heap.size ≤ q := fun q hq => by
      rcases h.row.2 with ⟨e0, _⟩ | ⟨b', cap', cur, e0, hb0, _⟩
      · rw [e0] at hq; cases hq
      · rw [e0] at hq
        have : b' = q := by simpa [Value.ownBlock] using hq
        omega
    have hsz2 : w1.heap.size ≤ w2.heap.size := Nat.le_trans (by simp; omega) hg.size
    have hb2 : ∀ q, q < w1.heap.size → q < w.heap.size → w2.heap[q]? = w1.heap[q]? := fun q hq hq2 => (hg.block q (by simp; omega) (fun e => by have := hvb q e.symm; omega)).trans (hA o o2 q hq)
    refine ⟨?_, h1.kept (fun q hq => hb2 q (h1.below q hq) (hS q hq)) hsz2, ?_, fun y hy => ?_⟩
    · rw [List.take_add_one, hx]
      simp only [Option.toList_some, keyCells, List.map_append]
      exact hown
    · have kt := h.keeps.trans k1
      exact ⟨hg.os.trans kt.os, hg.tape.trans kt.tape, hg.output.trans kt.output, Nat.le_trans hsz hsz2, fun q hq hS' => (hb2 q (by omega) hq).trans (kt.block q hq hS')⟩
    · rw [List.take_add_one, hx] at hy
      rcases List.mem_append.1 hy with hy | hy
      · exact h.due y hy
      · have : y = x := by simpa using hy
        rw [this]; exact hd

set_option maxHeartbeats 1600000 in
theorem due_any {w : World} {S : Nat → Prop} {a : Nat} {s : List Tm} (h : TA w S a s) (now : Int) :
    Calls Try.prog 14 #[.pointer (some ⟨a, 0, none⟩), .int .i64 now] w fun e w' => ∃ v, e = .returned v ∧ w'.ownsRow w.heap.size 3 1 v (dueL s now).length (keyCells (dueL s now)) ∧ TA w' S a (restL s now) ∧ Keeps S w w' := by
  have hslen := h.len
  have hS := h.below
  obtain ⟨i0, hi0, hz0, hz1, hz2⟩ := info_parts3
  have H0 : Hid (DueAt w S a s now 0 (.slice none 0 0) w) := ⟨⟨rfl, .inl ⟨rfl, rfl⟩⟩, h, .refl _ _, fun x hx => by simp at hx⟩
  have HS := hid hS
  clear h hS
  go_enter Try.func14, Try.ntmps14
  go_wp2
  go_loopg [5] s.length (fun kx sv wr => ∃ k, k ≤ s.length ∧ s.length - k ≤ kx ∧ Hid (DueAt w S a s now k sv wr))
  case atStart => exact ⟨0, Nat.zero_le _, by omega, H0⟩
  case round =>
    obtain ⟨k, hk, hkx, HD⟩ := hrel
    have HLn := hid (tlen_any HD.out.ta)
    have HNx := hid (next_any HD.out.ta)
    by_cases hlt : k < s.length
    · obtain ⟨x, hx⟩ : ∃ x, s[k]? = some x := ⟨_, List.getElem?_eq_getElem hlt⟩
      have hdr : s.drop k = x :: s.drop (k + 1) := by
        rw [List.drop_eq_getElem_cons hlt]
        rw [List.getElem?_eq_getElem hlt] at hx
        rw [Option.some.inj hx]
      have hpos : (0 : Int) < ((s.drop k).length : Int) := by rw [List.length_drop]; omega
      have hnx : nextL (s.drop k) = x.tick := by rw [hdr]; rfl
      rw [hnx] at HNx
      by_cases hd : x.tick ≤ now
      · have HN : Hid (∀ w1, TA w1 S a (s.drop (k + 1)) → Keeps S wr w1 → _) := fun w1 h1 k1 => HD.out.next HS.out hx hd w1 h1 k1
        have HP : Hid (Calls Try.prog 26 #[.iface 56 (.pointer (some ⟨a, 0, none⟩))] wr fun e w' => e = .returned (.iface 54 (.agg #[.int .i64 x.key, .int .i64 x.tick])) ∧ TA w' S a (s.drop (k + 1)) ∧ Keeps S wr w') := by
          have := HD.out.ta
          rw [hdr] at this
          exact tpop_any this
        have hta := assert54 x
        unfold tval at hta
        clear HD hdr hnx hx H0
        generalize (s.drop k).length = nk at *
        go_wp2_with (first
          | (go_at_call 18; refine HLn.out.mono ?_; rintro e w' ⟨rfl, rfl⟩)
          | (go_at_call 19; refine HNx.out.mono ?_; rintro e w' ⟨rfl, rfl⟩)
          | (go_at_call 26; refine HP.out.mono ?_; rintro e w1 ⟨rfl, ht1, hk1⟩; have HN1 := hid (HN.out w1 ht1 hk1); clear ht1 hk1)
          | (at_builtin; refine wpList_append_own _ rfl _ _ 37 rfl w.heap.size 3 i0 _ 1 8 Try.underlying37 hi0 hz0 hz1 hz2 rfl (by decide) _ k (keyCells (s.take k)) rfl (HN1.out.1 _ _) ⟨w1.heap.size + 1, 0, none⟩ 1 1 [.int .i64 x.key] rfl rfl (one_new rfl) (by simp [Value.oneCell']) (by unfold maxLen; omega) (by omega) (by have := HN1.out.2.1; simp; omega) ?_; intro v' w2 hown2 hg2 _; have HD2 := hid (HN1.out.2.2 _ _ v' w2 hown2 hg2); clear hown2 hg2))
        go_roundg (s.length - (k + 1))
        case measure => omega
        case rel => exact ⟨k + 1, by omega, Nat.le_refl _, HD2⟩
      · have hdz : ¬ (x.tick ≤ now) := hd
        have HF : Hid (dueL s now = s.take k ∧ restL s now = s.drop k) := due_split now s k hk HD.out.due (fun y hy => by rw [hx] at hy; cases hy; omega)
        clear hdr hnx hx H0
        generalize hnk : (s.drop k).length = nk at *
        go_wp2_with (first
          | (go_at_call 18; refine HLn.out.mono ?_; rintro e w' ⟨rfl, rfl⟩)
          | (go_at_call 19; refine HNx.out.mono ?_; rintro e w' ⟨rfl, rfl⟩))
        go_ret
        have hl : (s.take k).length = k := by simp; omega
        rw [HF.out.1, HF.out.2, hl]
        exact ⟨_, rfl, HD.out.row, HD.out.ta, HD.out.keeps⟩
    · have hks : k = s.length := by omega
      have HF : Hid (dueL s now = s.take k ∧ restL s now = s.drop k) := due_split now s k hk HD.out.due (fun y hy => by rw [List.getElem?_eq_none (by omega)] at hy; cases hy)
      have hz : ((s.drop k).length : Int) = 0 := by rw [List.length_drop]; omega
      rw [hz] at HLn
      clear HNx H0
      go_wp2_with (first
        | (go_at_call 18; refine HLn.out.mono ?_; rintro e w' ⟨rfl, rfl⟩))
      go_ret
      have hl : (s.take k).length = k := by simp; omega
      rw [HF.out.1, HF.out.2, hl]
      exact ⟨_, rfl, HD.out.row, HD.out.ta, HD.out.keeps⟩

end Go.Proofs.Ytohbnkghenlnoaa
