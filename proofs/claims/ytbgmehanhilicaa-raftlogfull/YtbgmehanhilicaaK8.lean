
/- What pieces and rpc write: ints, numbers, texts, behind a row of bytes. -/
import Derived.Test.YtbgmehanhilicaaK7
import Derived.Lib.BufferWrite
namespace Go.Proofs.Ytbgmehanhilicaa
open Go.RowKit Go.Maps
set_option linter.unusedSimpArgs false
set_option linter.unusedVariables false
set_option maxRecDepth 100000

theorem Grow.under {w w1 : World} (v : Value) (hb : Below w.heap.size w w1) : Grow w w1 v v := ⟨⟨hb.os, hb.tape, hb.output, hb.size, fun k hk _ => hb.block k hk⟩, fun q h => .inl h⟩

/-- A string's bytes behind any row. -/
theorem append_str {w : World} {B ty : Nat} {v : Value} {l : List UInt8} (h : Row w B v l) (t : List UInt8) (h63 : l.length + t.length ≤ 140737488355328) (hbase : B ≤ w.heap.size) :
    ∃ v' w', (Builtin.append_ #[53, 9] ty #[v, .string (strOf t)]).run Try.prog w = .ok v' w' ∧ Row w' B v' (l ++ t) ∧ Below B w w' ∧ Grow w w' v v' := by
  obtain ⟨i0, hi0, hz0, hz1, hz2⟩ := info5
  have hs := strOf_size t
  rcases h.2 with ⟨rfl, hn⟩ | ⟨g, cap, cur, rfl, hB, hg, hnc, hcm, hcs, htake⟩
  · have hl0 : l = [] := List.eq_nil_of_length_eq_zero hn
    subst hl0
    obtain ⟨v', w', hr, h1, h2, h3⟩ := Lib.run_append_own_string (P := Try.prog) w w.heap.size 53 9 ty 5 i0 Try.underlying53 Try.underlying9 hi0 hz0 hz1 hz2 (.slice none 0 0) 0 [] (World.ownsRow_nil w _ 5 1) (strOf t) (by unfold maxLen; omega) (by omega) (Nat.le_refl _)
    rw [strCells_eq, hs] at h1
    have h1' : Row w' w.heap.size v' ([] ++ t) := Row.of (l := []) (m := t) (by simpa [u8c] using h1)
    exact ⟨v', w', hr, h1'.base hbase, (Below.refl _ _).grown h2 hbase (fun k hk => by cases hk), h2, fun q hq => .inr (h1'.own q hq)⟩
  · obtain ⟨v', w', hr, h1, h2, _⟩ := Lib.run_append_own_string (P := Try.prog) w B 53 9 ty 5 i0 Try.underlying53 Try.underlying9 hi0 hz0 hz1 hz2 _ l.length (u8c l) h (strOf t) (by unfold maxLen; omega) (by omega) hbase
    have hat : ∀ q, v'.ownBlock = some q → (Value.slice (some ⟨g, 0, none⟩) l.length cap).ownBlock = some q ∨ w.heap.size ≤ q := by
      by_cases hroom : l.length + (strOf t).size ≤ cap
      · have hr2 := Lib.run_append_room_string (P := Try.prog) w 53 9 ty 5 i0 Try.underlying53 Try.underlying9 hi0 hz1 g l.length cap cur hg (strOf t) hroom (by omega)
        rw [hr] at hr2
        simp only [Result.ok.injEq] at hr2
        rw [hr2.1]
        exact fun q hq => .inl hq
      · have holds : ∀ j u, (u8c l)[j]? = some u → w.cell? ((⟨g, 0, none⟩ : Addr).add j) = some u := World.ownsRow.cells h (g := g) rfl
        have hr2 := Lib.run_append_grow_string (P := Try.prog) w 53 9 ty 5 i0 (.int .u8 0) Try.underlying53 Try.underlying9 hi0 hz0 ⟨g, 0, none⟩ l.length cap (u8c l) (by rw [hz1]; simp [u8c]) holds (strOf t) (by omega) (by omega) (by rw [hz2]; exact growslice_fits (by omega) (by omega))
        rw [hr] at hr2
        simp only [Result.ok.injEq] at hr2
        rw [hr2.1]
        intro q hq
        cases hq
        exact .inr (Nat.le_refl _)
    rw [strCells_eq, hs] at h1
    exact ⟨v', w', hr, Row.of h1, (Below.refl _ _).grown h2 hbase h.own, h2, hat⟩

theorem wpList_append_str {w : World} {ops : Array Oper} {rest : List Oper} {o : Oper} {a : Act} {Q : Exit → Act → World → Prop} (hgd : o.guard = none) (sl x : Operand)
    (ho : o.op = .call { callee := .builtin .append, args := #[sl, x], argTypes := #[53, 9] }) (B : Nat)
    (v : Value) (l : List UInt8) (hs : a.eval sl = v) (hrow : Row w B v l) (t : List UInt8) (hx : a.eval x = .string (strOf t))
    (h63 : l.length + t.length ≤ 140737488355328) (hbase : B ≤ w.heap.size)
    (h : ∀ v' w', Row w' B v' (l ++ t) → Below B w w' → Grow w w' v v' → wpList Try.prog ops Q rest (a.put o.dst v') w') : wpList Try.prog ops Q (o :: rest) a w := by
  refine wpList_plain hgd fun K hK => ?_
  obtain ⟨v', w', hr, h2, h3, h4⟩ := append_str (ty := o.type) hrow t h63 hbase
  unfold Oper.wp execOp
  simp only [ho, resolve, invoke, builtin, Sem.run_bind, Sem.run_pure, Result.andThen_ok, List.map_toArray, List.map_cons, List.map_nil, hs, hx, hr]
  exact hK _ _ (h v' w' h2 h3 h4)

/-- Ints in a row that is not the bytes' own. -/
def IntsIn (w : World) (v : Value) (a : Option Addr) (ns : List Int) : Prop := ns = [] ∨ ∃ b off, a = some ⟨b, off, none⟩ ∧ b < w.heap.size ∧ v.ownBlock ≠ some b ∧ ∀ i (h : i < ns.length), w.cell? ⟨b, off + i, none⟩ = some (.int .i64 ns[i])
theorem IntsIn.grow {w w1 : World} {v v1 : Value} {a : Option Addr} {ns : List Int} (h : IntsIn w v a ns) (g : Grow w w1 v v1) : IntsIn w1 v1 a ns := by
  rcases h with h | ⟨b, off, e, hl, hv, hc⟩
  · exact .inl h
  · obtain ⟨g1, g2, g3⟩ := g.block hl hv
    exact .inr ⟨b, off, e, g3, g2, fun i hi => (World.cell?_of_block (a := ⟨b, off + i, none⟩) g1).trans (hc i hi)⟩
theorem IntsIn.at {w : World} {v : Value} {a : Option Addr} {ns : List Int} (h : IntsIn w v a ns) (k : Nat) (hk : k < ns.length) : ∃ b off, a = some ⟨b, off, none⟩ ∧ w.cell? ⟨b, off + k, none⟩ = some (.int .i64 ns[k]) := by
  rcases h with h | ⟨b, off, e, hl, hv, hc⟩
  · subst h; simp at hk
  · exact ⟨b, off, e, hc k hk⟩
theorem Row.fresh {w : World} {B : Nat} {v : Value} {l : List UInt8} (h : Row w B v l) : v.ownBlock ≠ some w.heap.size := fun e => by
  have := (World.ownsRow.lt h _ e).2
  omega
theorem ints_one {w : World} {B : Nat} {v : Value} {l : List UInt8} (h : Row w B v l) (n : Int) : IntsIn (w.alloc (.cells #[.int .i64 n] 3)) v (some ⟨w.heap.size, 0, none⟩) [n] :=
  .inr ⟨w.heap.size, 0, rfl, by simp, h.fresh, fun i hi => by
    have h0 : i = 0 := by simp at hi; omega
    subst h0
    exact cell_new rfl rfl⟩
theorem ints_two {w : World} {B : Nat} {v : Value} {l : List UInt8} (h : Row w B v l) (n m : Int) : IntsIn (w.alloc (.cells #[.int .i64 n, .int .i64 m] 3)) v (some ⟨w.heap.size, 0, none⟩) [n, m] :=
  .inr ⟨w.heap.size, 0, rfl, by simp, h.fresh, fun i hi => by
    have h0 : i = 0 ∨ i = 1 := by simp at hi; omega
    rcases h0 with rfl | rfl
    · exact cell_new rfl rfl
    · exact cell_new rfl rfl⟩

set_option maxHeartbeats 800000 in
theorem appInts_any {w : World} {B : Nat} {v : Value} {l : List UInt8} (h : Row w B v l) (hB : B ≤ w.heap.size) (a : Option Addr) (cap : Nat) (ns : List Int) (ha : IntsIn w v a ns) (hi : ∀ n ∈ ns, I64 n) (hl : l.length + ns.length * 10 ≤ 1000000000000) :
    Calls Try.prog 46 #[v, .slice a ns.length cap] w fun e w' => ∃ v', e = .returned v' ∧ Row w' B v' (l ++ intsL ns) ∧ Below B w w' ∧ Grow w w' v v' := by
  have HA := hid ha
  have HI := hid hi
  have H0 : Hid (Row w B v (l ++ intsL (ns.take 0)) ∧ Below B w w ∧ Grow w w v v) := ⟨by simpa [intsL] using h, .refl _ _, .refl _ _⟩
  clear h ha hi
  go_enter Try.func46, Try.ntmps46
  go_wp2
  go_loopg [0, 9] ns.length (fun kx s0 s9 wr => ∃ (k : Nat) (sv : Value), k ≤ ns.length ∧ ns.length - k ≤ kx ∧ s9 = .int .i64 k ∧ sv = s0 ∧ Hid (Row wr B sv (l ++ intsL (ns.take k)) ∧ Below B w wr ∧ Grow w wr v sv))
  case atStart => exact ⟨0, _, by omega, by omega, rfl, rfl, H0⟩
  case round =>
    obtain ⟨k, sv, hk, hkx, rfl, rfl, HD⟩ := hrel
    clear H0
    by_cases hlt : k < ns.length
    · have hlt' : (k : Int) < (ns.length : Int) := by omega
      obtain ⟨b, off, rfl, hc⟩ := (HA.out.grow HD.out.2.2).at k hlt
      have hlen : (l ++ intsL (ns.take k)).length ≤ 1000000000000 := by
        have := intsL_length (ns.take k)
        have h2 : (ns.take k).length ≤ ns.length := by simp; omega
        simp only [List.length_append]; omega
      have HC := hid (int_any ns[k] wr (HI.out _ (List.getElem_mem hlt)))
      have HT : Hid (l ++ intsL (ns.take (k + 1)) = l ++ intsL (ns.take k) ++ intL ns[k]) := by show _ = _; rw [ints_take ns k hlt, List.append_assoc]
      have hZ := (intL_length ns[k]).2
      generalize ns[k] = N at *
      have hBs := HD.out.2.1.size
      generalize l ++ intsL (ns.take k) = L at *
      have HR := hid HD.out
      clear HD
      go_wp2_with (first | (go_at_call 59; refine HC.out.mono ?_; rintro e w1 ⟨rfl, hb1⟩; have hs1 := hb1.size; have hrow1 := HR.out.1.under (B' := 0) hb1) | (at_builtin; refine wpList_append_str rfl _ _ rfl B _ L rfl hrow1 (intL N) rfl (by omega) (by omega) ?_; intro v2 w2 hrow2 hb2 hg2))
      go_roundg (ns.length - (k + 1))
      case measure => omega
      case rel =>
        refine ⟨k + 1, v2, by omega, Nat.le_refl _, by go_num, rfl, ?_, ?_, ?_⟩
        · rw [HT.out]; exact hrow2
        · exact HR.out.2.1.trans ((hb1.mono (by omega)).trans hb2)
        · exact HR.out.2.2.trans ((Grow.under sv hb1).trans hg2)
    · have hlt' : ¬ (k : Int) < (ns.length : Int) := by omega
      have he : ns.take k = ns := List.take_of_length_le (by omega)
      have HE := hid HD.out
      rw [he] at HE
      clear he
      go_wp2
      go_ret
      exact ⟨_, rfl, HE.out⟩

theorem one48 {w : World} {B : Nat} {v : Value} {l : List UInt8} (h : Row w B v l) (hB : B ≤ w.heap.size) (n : Int) (hn : I64 n) (hl : l.length ≤ 100000000000) :
    Calls Try.prog 46 #[v, .slice (some ⟨w.heap.size, 0, none⟩) 1 1] (w.alloc (.cells #[.int .i64 n] 3)) fun e w' => ∃ v', e = .returned v' ∧ Row w' B v' (l ++ intL n) ∧ Below B w w' ∧ Grow w w' v v' := by
  have H := appInts_any (h.alloc (.cells #[.int .i64 n] 3)) (by simp; omega) (some ⟨w.heap.size, 0, none⟩) 1 [n] (ints_one h n) (fun m hm => by simp at hm; subst hm; exact hn) (by simp; omega)
  refine H.mono ?_
  rintro e w1 ⟨v', rfl, h1, h2, h3⟩
  refine ⟨v', rfl, by simpa [intsL] using h1, ((Below.refl _ _).alloc hB _).trans h2, ((Grow.refl w v).alloc _).trans h3⟩
theorem two48 {w : World} {B : Nat} {v : Value} {l : List UInt8} (h : Row w B v l) (hB : B ≤ w.heap.size) (n m : Int) (hn : I64 n) (hm : I64 m) (hl : l.length ≤ 100000000000) :
    Calls Try.prog 46 #[v, .slice (some ⟨w.heap.size, 0, none⟩) 2 2] (w.alloc (.cells #[.int .i64 n, .int .i64 m] 3)) fun e w' => ∃ v', e = .returned v' ∧ Row w' B v' (l ++ intsL [n, m]) ∧ Below B w w' ∧ Grow w w' v v' := by
  have H := appInts_any (h.alloc (.cells #[.int .i64 n, .int .i64 m] 3)) (by simp; omega) (some ⟨w.heap.size, 0, none⟩) 2 [n, m] (ints_two h n m) (fun k hk => by simp at hk; rcases hk with rfl | rfl <;> assumption) (by simp; omega)
  refine H.mono ?_
  rintro e w1 ⟨v', rfl, h1, h2, h3⟩
  exact ⟨v', rfl, h1, ((Below.refl _ _).alloc hB _).trans h2, ((Grow.refl w v).alloc _).trans h3⟩

theorem str_empty (t : List UInt8) : (strOf t).toList.isEmpty = decide (t = []) := by
  rw [Lib.toList_data, strOf_data]
  cases t <;> simp
set_option maxHeartbeats 400000 in
theorem pText_any {w : World} {B : Nat} {v : Value} {l : List UInt8} (h : Row w B v l) (hB : B ≤ w.heap.size) (t : List UInt8) (hl : l.length + t.length ≤ 10000000000) :
    Calls Try.prog 45 #[v, .string (strOf t)] w fun e w' => ∃ v', e = .returned v' ∧ Row w' B v' (l ++ textL t) ∧ Below B w w' ∧ Grow w w' v v' := by
  have hts := strOf_size t
  have H48 := hid (one48 h hB (t.length : Int) ⟨by omega, by omega⟩ (by omega))
  have hL := (intL_length (t.length : Int)).2
  have hL2 : (l ++ intL (t.length : Int)).length = l.length + (intL (t.length : Int)).length := by simp
  have HT : Hid (l ++ textL t = l ++ intL (t.length : Int) ++ t) := by show _ = _; unfold textL; rw [List.append_assoc]
  clear h
  generalize l ++ intL (t.length : Int) = L at *
  go_enter Try.func45, Try.ntmps45
  go_wp2_with (first | (go_at_call 46; refine H48.out.mono ?_; rintro e w1 ⟨v1, rfl, hrow1, hb1, hg1⟩) | (at_builtin; refine wpList_append_str rfl _ _ rfl B _ L rfl hrow1 t rfl (by omega) (by have := hb1.size; omega) ?_; intro v2 w2 hrow2 hb2 hg2))
  go_ret
  exact ⟨_, rfl, by rw [HT.out]; exact hrow2, hb1.trans hb2, hg1.trans hg2⟩

end Go.Proofs.Ytbgmehanhilicaa

/- The reader: what is left of some bytes, in memory; spoil, number, count. -/
namespace Go.Proofs.Ytbgmehanhilicaa
open Go.RowKit Go.Maps
set_option linter.unusedSimpArgs false
set_option linter.unusedVariables false
set_option maxRecDepth 100000

/-- A reader in block q. -/
structure Rd (w : World) (q : Nat) (s : RS) : Prop where
  box : w.heap[q]? = some (.cells #[.string (strOf s.rest), .bool s.wrong] 116)
  len : s.rest.length ≤ maxLen
theorem Rd.c0 {w : World} {q : Nat} {s : RS} (h : Rd w q s) : w.cell? ⟨q, 0, none⟩ = some (.string (strOf s.rest)) := cell_blk h.box 0 _ rfl
theorem Rd.c1 {w : World} {q : Nat} {s : RS} (h : Rd w q s) : w.cell? ⟨q, 1, none⟩ = some (.bool s.wrong) := cell_blk h.box 1 _ rfl
theorem frozen_blk {w : World} {q : Nat} {cs : Array Value} {T : TypeId} (h : w.heap[q]? = some (.cells cs T)) (j : Nat) : w.frozen? ⟨q, j, none⟩ = false := by
  simp [World.frozen?, h]
theorem Rd.f {w : World} {q : Nat} {s : RS} (h : Rd w q s) (j : Nat) : w.frozen? ⟨q, j, none⟩ = false := frozen_blk h.box j
theorem Rd.lt {w : World} {q : Nat} {s : RS} (h : Rd w q s) : q < w.heap.size := by
  rcases Nat.lt_or_ge q w.heap.size with h1 | h1
  · exact h1
  · have := h.box; rw [Array.getElem?_eq_none h1] at this; cases this
theorem Rd.set0 {w : World} {q : Nat} {s : RS} (h : Rd w q s) (l : List UInt8) (hl : l.length ≤ maxLen) : Rd (w.setCell ⟨q, 0, none⟩ (.string (strOf l))) q ⟨l, s.wrong⟩ := by
  refine ⟨?_, hl⟩
  rw [setCell_eq_setRow w q 0 _ 116 (0, 0) _ h.box, setRow_heap w q _ _ 116 (0, 0) h.box]
  rfl
theorem Rd.spoil {w : World} {q : Nat} {s : RS} (h : Rd w q s) : Rd ((w.setCell ⟨q, 0, none⟩ (.string ⟨#[]⟩)).setCell ⟨q, 1, none⟩ (.bool true)) q spoiled := by
  have h1 := h.set0 [] (by simp)
  refine ⟨?_, by simp [spoiled]⟩
  have h1b := h1.box
  have e : (Value.string (strOf [])) = .string ⟨#[]⟩ := rfl
  rw [e] at h1b
  rw [setCell_eq_setRow _ q 1 _ 116 (0, 0) _ h1b, setRow_heap _ q _ _ 116 (0, 0) h1b]
  rfl
theorem Rd.kept {w w' : World} {q : Nat} {s : RS} (h : Rd w q s) (hb : w'.heap[q]? = w.heap[q]?) : Rd w' q s := ⟨hb.trans h.box, h.len⟩

theorem extract_drop (l : List UInt8) (k : Nat) : (strOf l).extract k l.length = strOf (l.drop k) := by
  rw [Lib.extract_eq, strOf_data, List.take_of_length_le (by simp)]
  rfl
theorem extract_take (l : List UInt8) (k : Nat) : (strOf l).extract 0 k = strOf (l.take k) := by
  rw [Lib.extract_eq, strOf_data]
  simp [strOf]

end Go.Proofs.Ytbgmehanhilicaa

