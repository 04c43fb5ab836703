/- The reader of pieces: what is left of some bytes, in memory. -/
import Derived.Test.YtcffomhcmilcpaaGreatL2
import Derived.Lib.BufferWrite
import Derived.Test.YtcffomhcmilcpaaGreatL0
import Derived.Test.YtcffomhcmilcpaaGreatK28
namespace Go.Proofs.YtcffomhcmilcpaaGreat.W
open Go.RowKit Go.Maps
set_option linter.unusedSimpArgs false
set_option linter.unusedVariables false
set_option maxRecDepth 100000

/-- A reader in block q. -/
structure Pd (w : World) (q : Nat) (s : RS) : Prop where
  box : w.heap[q]? = some (.cells #[.string (strOf s.rest), .bool s.wrong] 115)
  len : s.rest.length ≤ maxLen
theorem Pd.c0 {w : World} {q : Nat} {s : RS} (h : Pd w q s) : w.cell? ⟨q, 0, none⟩ = some (.string (strOf s.rest)) := cell_blk h.box 0 _ rfl
theorem Pd.c1 {w : World} {q : Nat} {s : RS} (h : Pd w q s) : w.cell? ⟨q, 1, none⟩ = some (.bool s.wrong) := cell_blk h.box 1 _ rfl
theorem Pd.f {w : World} {q : Nat} {s : RS} (h : Pd w q s) (j : Nat) : w.frozen? ⟨q, j, none⟩ = false := frozen_blk h.box j
theorem Pd.lt {w : World} {q : Nat} {s : RS} (h : Pd w q s) : q < w.heap.size := by
  rcases Nat.lt_or_ge q w.heap.size with h1 | h1
  · exact h1
  · have := h.box; rw [Array.getElem?_eq_none h1] at this; cases this
theorem Pd.set0 {w : World} {q : Nat} {s : RS} (h : Pd w q s) (l : List UInt8) (hl : l.length ≤ maxLen) : Pd (w.setCell ⟨q, 0, none⟩ (.string (strOf l))) q ⟨l, s.wrong⟩ := by
  refine ⟨?_, hl⟩
  rw [setCell_eq_setRow w q 0 _ 115 (0, 0) _ h.box, setRow_heap w q _ _ 115 (0, 0) h.box]
  rfl
theorem Pd.spoil {w : World} {q : Nat} {s : RS} (h : Pd w q s) : Pd ((w.setCell ⟨q, 0, none⟩ (.string ⟨#[]⟩)).setCell ⟨q, 1, none⟩ (.bool true)) q spoiled := by
  have h1 := h.set0 [] (by simp)
  refine ⟨?_, by simp [spoiled]⟩
  have h1b := h1.box
  have e : (Value.string (strOf [])) = .string ⟨#[]⟩ := rfl
  rw [e] at h1b
  rw [setCell_eq_setRow _ q 1 _ 115 (0, 0) _ h1b, setRow_heap _ q _ _ 115 (0, 0) h1b]
  rfl
theorem Pd.kept {w w' : World} {q : Nat} {s : RS} (h : Pd w q s) (hb : w'.heap[q]? = w.heap[q]?) : Pd w' q s := ⟨hb.trans h.box, h.len⟩

set_option maxHeartbeats 400000 in
theorem pspoil_any {w : World} {q : Nat} {s : RS} (h : Pd w q s) : Calls Tryz.prog 89 #[.pointer (some ⟨q, 0, none⟩)] w fun e w' => e = .returned (.tuple #[]) ∧ Pd w' q spoiled ∧ w.grownBy w' (some q) := by
  have c0 := h.c0
  have c1 := h.c1
  have f0 := h.f 0
  have f1 := h.f 1
  have HF : Hid (Pd ((w.setCell ⟨q, 0, none⟩ (.string ⟨#[]⟩)).setCell ⟨q, 1, none⟩ (.bool true)) q spoiled ∧ w.grownBy ((w.setCell ⟨q, 0, none⟩ (.string ⟨#[]⟩)).setCell ⟨q, 1, none⟩ (.bool true)) (some q)) :=
    ⟨h.spoil, (Lib.grownBy_setCell w q 0 _).trans (Lib.grownBy_setCell _ q 1 _)⟩
  clear h
  go_enter Tryz.func89, Tryz.ntmps89
  go_wp2
  go_end0
  exact ⟨rfl, HF.out⟩

set_option maxHeartbeats 800000 in
theorem pnum_any {w : World} {q : Nat} {s : RS} (h : Pd w q s) : Calls Tryz.prog 43 #[.pointer (some ⟨q, 0, none⟩)] w fun e w' => e = .returned (.int .i64 (numS s).1) ∧ Pd w' q (numS s).2 ∧ w.grownBy w' (some q) := by
  have c0 := h.c0
  have f0 := h.f 0
  have H10 := hid (readInt_any (strOf s.rest) w (by rw [strOf_size]; exact h.len))
  rw [strOf_data] at H10
  have HS := hid (pspoil_any h)
  have hlen := h.len
  unfold maxLen at hlen
  have hrg := readL_range s.rest
  have HH := hid h
  have HN : Hid (numS s = if (readL s.rest).2.2 = 0 then ((readL s.rest).1, ⟨s.rest.drop (readL s.rest).2.1, s.wrong⟩) else (0, spoiled)) := rfl
  clear h
  have hsz := strOf_size s.rest
  generalize readL s.rest = R at *
  obtain ⟨n, k, e⟩ := R
  simp only at *
  obtain ⟨hn, hk, _⟩ := hrg
  by_cases he : e = 0
  · subst he
    have hx := extract_drop s.rest k
    have HF : Hid (numS s = (n, ⟨s.rest.drop k, s.wrong⟩)) := by show _ = _; rw [HN.out, if_pos rfl]
    have hk' : (k : Int) ≤ ((strOf s.rest).size : Int) := by rw [hsz]; omega
    have HD := hid (HH.out.set0 (s.rest.drop k) (by simp; unfold maxLen; omega))
    go_enter Tryz.func43, Tryz.ntmps43
    go_wp2_with (go_at_call 88; refine H10.out.mono ?_; rintro e w' ⟨rfl, rfl⟩)
    go_ret
    exact ⟨by rw [HF.out]; rfl, by rw [HF.out]; exact HD.out, Lib.grownBy_setCell _ q 0 _⟩
  · have hne : (e != 0) = true := by simp [he]
    have HF : Hid (numS s = (0, spoiled)) := by show _ = _; rw [HN.out, if_neg he]
    clear he
    go_enter Tryz.func43, Tryz.ntmps43
    go_wp2_with (first | (go_at_call 88; refine H10.out.mono ?_; rintro e w' ⟨rfl, rfl⟩) | (go_at_call 89; refine HS.out.mono ?_; rintro e w2 ⟨rfl, hr2, hg2⟩))
    go_ret
    exact ⟨by rw [HF.out]; rfl, by rw [HF.out]; exact hr2, hg2⟩

set_option maxHeartbeats 800000 in
theorem pcount_any {w : World} {q : Nat} {s : RS} (h : Pd w q s) (most : Int) (hm : 0 ≤ most) : Calls Tryz.prog 90 #[.pointer (some ⟨q, 0, none⟩), .int .i64 most] w fun e w' => e = .returned (.int .i64 (countS most s).1) ∧ Pd w' q (countS most s).2 ∧ w.grownBy w' (some q) := by
  have H54 := hid (pnum_any h)
  have HN : Hid (countS most s = if (numS s).1 < 0 ∨ most < (numS s).1 then (0, spoiled) else numS s) := rfl
  clear h
  generalize numS s = N at *
  obtain ⟨n, s1⟩ := N
  simp only at *
  by_cases h1 : n < 0
  · have HF : Hid (countS most s = (0, spoiled)) := by show _ = _; rw [HN.out, if_pos (.inl h1)]
    go_enter Tryz.func90, Tryz.ntmps90
    go_wp2_with (go_at_call 43; refine H54.out.mono ?_; rintro e w1 ⟨rfl, hr1, hg1⟩)
    refine (pspoil_any hr1).mono ?_
    rintro e w2 ⟨rfl, hr2, hg2⟩
    go_wp2
    go_ret
    exact ⟨by rw [HF.out]; rfl, by rw [HF.out]; exact hr2, hg1.trans hg2⟩
  · by_cases h2 : most < n
    · have HF : Hid (countS most s = (0, spoiled)) := by show _ = _; rw [HN.out, if_pos (.inr h2)]
      go_enter Tryz.func90, Tryz.ntmps90
      go_wp2_with (go_at_call 43; refine H54.out.mono ?_; rintro e w1 ⟨rfl, hr1, hg1⟩)
      refine (pspoil_any hr1).mono ?_
      rintro e w2 ⟨rfl, hr2, hg2⟩
      go_wp2
      go_ret
      exact ⟨by rw [HF.out]; rfl, by rw [HF.out]; exact hr2, hg1.trans hg2⟩
    · have HF : Hid (countS most s = (n, s1)) := by show _ = _; rw [HN.out, if_neg (by omega)]
      go_enter Tryz.func90, Tryz.ntmps90
      go_wp2_with (go_at_call 43; refine H54.out.mono ?_; rintro e w1 ⟨rfl, hr1, hg1⟩)
      go_ret
      exact ⟨by rw [HF.out]; rfl, by rw [HF.out]; exact hr1, hg1⟩
theorem Pd.set {w : World} {q : Nat} {s : RS} (h : Pd w q s) (b j : Nat) (v : Value) (hb : q ≠ b) : Pd (w.setCell ⟨b, j, none⟩ v) q s := h.kept (Below.heap_setCell w ⟨b, j, none⟩ v q hb)
set_option maxHeartbeats 400000 in
theorem pdone_any {w : World} {q : Nat} {s : RS} (h : Pd w q s) : Calls Tryz.prog 48 #[.pointer (some ⟨q, 0, none⟩)] w fun e w' => e = .returned (.bool (doneS s)) ∧ w = w' := by
  have c0 := h.c0
  have c1 := h.c1
  have HN : Hid (doneS s = (!s.wrong && s.rest.isEmpty)) := rfl
  clear h
  obtain ⟨l, wr⟩ := s
  simp only at *
  cases wr with
  | true =>
    go_enter Tryz.func48, Tryz.ntmps48
    go_wp2
    go_ret
    exact ⟨ret_bool (by rw [HN.out]; rfl), rfl⟩
  | false =>
    go_enter Tryz.func48, Tryz.ntmps48
    go_wp2
    go_ret
    exact ⟨ret_bool (by rw [HN.out, Lib.toList_data, strOf_data]; rfl), rfl⟩
end Go.Proofs.YtcffomhcmilcpaaGreat.W


/- What pieces and rpc write: ints, numbers, texts, behind a row of bytes. -/
namespace Go.Proofs.YtcffomhcmilcpaaGreat.W
open Go.RowKit Go.Maps
set_option linter.unusedSimpArgs false
set_option linter.unusedVariables false
set_option maxRecDepth 100000

theorem Grow.under {w w1 : World} (v : Value) (hb : Below w.heap.size w w1) : Grow w w1 v v := ⟨⟨hb.os, hb.tape, hb.output, hb.size, fun k hk _ => hb.block k hk⟩, fun q h => .inl h⟩

/-- A string's bytes behind any row. -/
theorem append_str {w : World} {B ty : Nat} {v : Value} {l : List UInt8} (h : Row w B v l) (t : List UInt8) (h63 : l.length + t.length ≤ 140737488355328) (hbase : B ≤ w.heap.size) :
    ∃ v' w', (Builtin.append_ #[46, 9] ty #[v, .string (strOf t)]).run Tryz.prog w = .ok v' w' ∧ Row w' B v' (l ++ t) ∧ Below B w w' ∧ Grow w w' v v' := by
  obtain ⟨i0, hi0, hz0, hz1, hz2⟩ := info5
  have hs := strOf_size t
  rcases h.2 with ⟨rfl, hn⟩ | ⟨g, cap, cur, rfl, hB, hg, hnc, hcm, hcs, htake⟩
  · have hl0 : l = [] := List.eq_nil_of_length_eq_zero hn
    subst hl0
    obtain ⟨v', w', hr, h1, h2, h3⟩ := Lib.run_append_own_string (P := Tryz.prog) w w.heap.size 46 9 ty 5 i0 Tryz.underlying46 Tryz.underlying9 hi0 hz0 hz1 hz2 (.slice none 0 0) 0 [] (World.ownsRow_nil w _ 5 1) (strOf t) (by unfold maxLen; omega) (by omega) (Nat.le_refl _)
    rw [strCells_eq, hs] at h1
    have h1' : Row w' w.heap.size v' ([] ++ t) := Row.of (l := []) (m := t) (by simpa [u8c] using h1)
    exact ⟨v', w', hr, h1'.base hbase, (Below.refl _ _).grown h2 hbase (fun k hk => by cases hk), h2, fun q hq => .inr (h1'.own q hq)⟩
  · obtain ⟨v', w', hr, h1, h2, _⟩ := Lib.run_append_own_string (P := Tryz.prog) w B 46 9 ty 5 i0 Tryz.underlying46 Tryz.underlying9 hi0 hz0 hz1 hz2 _ l.length (u8c l) h (strOf t) (by unfold maxLen; omega) (by omega) hbase
    have hat : ∀ q, v'.ownBlock = some q → (Value.slice (some ⟨g, 0, none⟩) l.length cap).ownBlock = some q ∨ w.heap.size ≤ q := by
      by_cases hroom : l.length + (strOf t).size ≤ cap
      · have hr2 := Lib.run_append_room_string (P := Tryz.prog) w 46 9 ty 5 i0 Tryz.underlying46 Tryz.underlying9 hi0 hz1 g l.length cap cur hg (strOf t) hroom (by omega)
        rw [hr] at hr2
        simp only [Result.ok.injEq] at hr2
        rw [hr2.1]
        exact fun q hq => .inl hq
      · have holds : ∀ j u, (u8c l)[j]? = some u → w.cell? ((⟨g, 0, none⟩ : Addr).add j) = some u := World.ownsRow.cells h (g := g) rfl
        have hr2 := Lib.run_append_grow_string (P := Tryz.prog) w 46 9 ty 5 i0 (.int .u8 0) Tryz.underlying46 Tryz.underlying9 hi0 hz0 ⟨g, 0, none⟩ l.length cap (u8c l) (by rw [hz1]; simp [u8c]) holds (strOf t) (by omega) (by omega) (by rw [hz2]; exact growslice_fits (by omega) (by omega))
        rw [hr] at hr2
        simp only [Result.ok.injEq] at hr2
        rw [hr2.1]
        intro q hq
        cases hq
        exact .inr (Nat.le_refl _)
    rw [strCells_eq, hs] at h1
    exact ⟨v', w', hr, Row.of h1, (Below.refl _ _).grown h2 hbase h.own, h2, hat⟩

theorem wpList_append_str {w : World} {ops : Array Oper} {rest : List Oper} {o : Oper} {a : Act} {Q : Exit → Act → World → Prop} (hgd : o.guard = none) (sl x : Operand)
    (ho : o.op = .call { callee := .builtin .append, args := #[sl, x], argTypes := #[46, 9] }) (B : Nat)
    (v : Value) (l : List UInt8) (hs : a.eval sl = v) (hrow : Row w B v l) (t : List UInt8) (hx : a.eval x = .string (strOf t))
    (h63 : l.length + t.length ≤ 140737488355328) (hbase : B ≤ w.heap.size)
    (h : ∀ v' w', Row w' B v' (l ++ t) → Below B w w' → Grow w w' v v' → wpList Tryz.prog ops Q rest (a.put o.dst v') w') : wpList Tryz.prog ops Q (o :: rest) a w := by
  refine wpList_plain hgd fun K hK => ?_
  obtain ⟨v', w', hr, h2, h3, h4⟩ := append_str (ty := o.type) hrow t h63 hbase
  unfold Oper.wp execOp
  simp only [ho, resolve, invoke, builtin, Sem.run_bind, Sem.run_pure, Result.andThen_ok, List.map_toArray, List.map_cons, List.map_nil, hs, hx, hr]
  exact hK _ _ (h v' w' h2 h3 h4)

/-- Ints in a row that is not the bytes' own. -/
def IntsIn (w : World) (v : Value) (a : Option Addr) (ns : List Int) : Prop := ns = [] ∨ ∃ b off, a = some ⟨b, off, none⟩ ∧ b < w.heap.size ∧ v.ownBlock ≠ some b ∧ ∀ i (h : i < ns.length), w.cell? ⟨b, off + i, none⟩ = some (.int .i64 ns[i])
theorem IntsIn.grow {w w1 : World} {v v1 : Value} {a : Option Addr} {ns : List Int} (h : IntsIn w v a ns) (g : Grow w w1 v v1) : IntsIn w1 v1 a ns := by
  rcases h with h | ⟨b, off, e, hl, hv, hc⟩
  · exact .inl h
  · obtain ⟨g1, g2, g3⟩ := g.block hl hv
    exact .inr ⟨b, off, e, g3, g2, fun i hi => (World.cell?_of_block (a := ⟨b, off + i, none⟩) g1).trans (hc i hi)⟩
theorem IntsIn.at {w : World} {v : Value} {a : Option Addr} {ns : List Int} (h : IntsIn w v a ns) (k : Nat) (hk : k < ns.length) : ∃ b off, a = some ⟨b, off, none⟩ ∧ w.cell? ⟨b, off + k, none⟩ = some (.int .i64 ns[k]) := by
  rcases h with h | ⟨b, off, e, hl, hv, hc⟩
  · subst h; simp at hk
  · exact ⟨b, off, e, hc k hk⟩
theorem Row.fresh {w : World} {B : Nat} {v : Value} {l : List UInt8} (h : Row w B v l) : v.ownBlock ≠ some w.heap.size := fun e => by
  have := (World.ownsRow.lt h _ e).2
  omega
theorem ints_one {w : World} {B : Nat} {v : Value} {l : List UInt8} (h : Row w B v l) (n : Int) : IntsIn (w.alloc (.cells #[.int .i64 n] 3)) v (some ⟨w.heap.size, 0, none⟩) [n] :=
  .inr ⟨w.heap.size, 0, rfl, by simp, h.fresh, fun i hi => by
    have h0 : i = 0 := by simp at hi; omega
    subst h0
    exact cell_new rfl rfl⟩
theorem ints_two {w : World} {B : Nat} {v : Value} {l : List UInt8} (h : Row w B v l) (n m : Int) : IntsIn (w.alloc (.cells #[.int .i64 n, .int .i64 m] 3)) v (some ⟨w.heap.size, 0, none⟩) [n, m] :=
  .inr ⟨w.heap.size, 0, rfl, by simp, h.fresh, fun i hi => by
    have h0 : i = 0 ∨ i = 1 := by simp at hi; omega
    rcases h0 with rfl | rfl
    · exact cell_new rfl rfl
    · exact cell_new rfl rfl⟩

set_option maxHeartbeats 800000 in
theorem appInts_any {w : World} {B : Nat} {v : Value} {l : List UInt8} (h : Row w B v l) (hB : B ≤ w.heap.size) (a : Option Addr) (cap : Nat) (ns : List Int) (ha : IntsIn w v a ns) (hi : ∀ n ∈ ns, I64 n) (hl : l.length + ns.length * 10 ≤ 1000000000000) :
    Calls Tryz.prog 49 #[v, .slice a ns.length cap] w fun e w' => ∃ v', e = .returned v' ∧ Row w' B v' (l ++ intsL ns) ∧ Below B w w' ∧ Grow w w' v v' := by
  have HA := hid ha
  have HI := hid hi
  have H0 : Hid (Row w B v (l ++ intsL (ns.take 0)) ∧ Below B w w ∧ Grow w w v v) := ⟨by simpa [intsL] using h, .refl _ _, .refl _ _⟩
  clear h ha hi
  go_enter Tryz.func49, Tryz.ntmps49
  go_wp2
  go_loopg [0, 9] ns.length (fun kx s0 s9 wr => ∃ (k : Nat) (sv : Value), k ≤ ns.length ∧ ns.length - k ≤ kx ∧ s9 = .int .i64 k ∧ sv = s0 ∧ Hid (Row wr B sv (l ++ intsL (ns.take k)) ∧ Below B w wr ∧ Grow w wr v sv))
  case atStart => exact ⟨0, _, by omega, by omega, rfl, rfl, H0⟩
  case round =>
    obtain ⟨k, sv, hk, hkx, rfl, rfl, HD⟩ := hrel
    clear H0
    by_cases hlt : k < ns.length
    · have hlt' : (k : Int) < (ns.length : Int) := by omega
      obtain ⟨b, off, rfl, hc⟩ := (HA.out.grow HD.out.2.2).at k hlt
      have hlen : (l ++ intsL (ns.take k)).length ≤ 1000000000000 := by
        have := intsL_length (ns.take k)
        have h2 : (ns.take k).length ≤ ns.length := by simp; omega
        simp only [List.length_append]; omega
      have HC := hid (int_any ns[k] wr (HI.out _ (List.getElem_mem hlt)))
      have HT : Hid (l ++ intsL (ns.take (k + 1)) = l ++ intsL (ns.take k) ++ intL ns[k]) := by show _ = _; rw [ints_take ns k hlt, List.append_assoc]
      have hZ := (intL_length ns[k]).2
      generalize ns[k] = N at *
      have hBs := HD.out.2.1.size
      generalize l ++ intsL (ns.take k) = L at *
      have HR := hid HD.out
      clear HD
      go_wp2_with (first | (go_at_call 98; refine HC.out.mono ?_; rintro e w1 ⟨rfl, hb1⟩; have hs1 := hb1.size; have hrow1 := HR.out.1.under (B' := 0) hb1) | (at_builtin; refine wpList_append_str rfl _ _ rfl B _ L rfl hrow1 (intL N) rfl (by omega) (by omega) ?_; intro v2 w2 hrow2 hb2 hg2))
      go_roundg (ns.length - (k + 1))
      case measure => omega
      case rel =>
        refine ⟨k + 1, v2, by omega, Nat.le_refl _, by go_num, rfl, ?_, ?_, ?_⟩
        · rw [HT.out]; exact hrow2
        · exact HR.out.2.1.trans ((hb1.mono (by omega)).trans hb2)
        · exact HR.out.2.2.trans ((Grow.under sv hb1).trans hg2)
    · have hlt' : ¬ (k : Int) < (ns.length : Int) := by omega
      have he : ns.take k = ns := List.take_of_length_le (by omega)
      have HE := hid HD.out
      rw [he] at HE
      clear he
      go_wp2
      go_ret
      exact ⟨_, rfl, HE.out⟩

theorem one48 {w : World} {B : Nat} {v : Value} {l : List UInt8} (h : Row w B v l) (hB : B ≤ w.heap.size) (n : Int) (hn : I64 n) (hl : l.length ≤ 100000000000) :
    Calls Tryz.prog 49 #[v, .slice (some ⟨w.heap.size, 0, none⟩) 1 1] (w.alloc (.cells #[.int .i64 n] 3)) fun e w' => ∃ v', e = .returned v' ∧ Row w' B v' (l ++ intL n) ∧ Below B w w' ∧ Grow w w' v v' := by
  have H := appInts_any (h.alloc (.cells #[.int .i64 n] 3)) (by simp; omega) (some ⟨w.heap.size, 0, none⟩) 1 [n] (ints_one h n) (fun m hm => by simp at hm; subst hm; exact hn) (by simp; omega)
  refine H.mono ?_
  rintro e w1 ⟨v', rfl, h1, h2, h3⟩
  refine ⟨v', rfl, by simpa [intsL] using h1, ((Below.refl _ _).alloc hB _).trans h2, ((Grow.refl w v).alloc _).trans h3⟩
theorem two48 {w : World} {B : Nat} {v : Value} {l : List UInt8} (h : Row w B v l) (hB : B ≤ w.heap.size) (n m : Int) (hn : I64 n) (hm : I64 m) (hl : l.length ≤ 100000000000) :
    Calls Tryz.prog 49 #[v, .slice (some ⟨w.heap.size, 0, none⟩) 2 2] (w.alloc (.cells #[.int .i64 n, .int .i64 m] 3)) fun e w' => ∃ v', e = .returned v' ∧ Row w' B v' (l ++ intsL [n, m]) ∧ Below B w w' ∧ Grow w w' v v' := by
  have H := appInts_any (h.alloc (.cells #[.int .i64 n, .int .i64 m] 3)) (by simp; omega) (some ⟨w.heap.size, 0, none⟩) 2 [n, m] (ints_two h n m) (fun k hk => by simp at hk; rcases hk with rfl | rfl <;> assumption) (by simp; omega)
  refine H.mono ?_
  rintro e w1 ⟨v', rfl, h1, h2, h3⟩
  exact ⟨v', rfl, h1, ((Below.refl _ _).alloc hB _).trans h2, ((Grow.refl w v).alloc _).trans h3⟩

theorem str_empty (t : List UInt8) : (strOf t).toList.isEmpty = decide (t = []) := by
  rw [Lib.toList_data, strOf_data]
  cases t <;> simp
end Go.Proofs.YtcffomhcmilcpaaGreat.W

/- Epochs without memory: entries, what calls make of them, their bytes. -/
namespace Go.Proofs.YtcffomhcmilcpaaGreat.W
set_option linter.unusedSimpArgs false
set_option linter.unusedVariables false

def entsB : List (Int × Int) → List UInt8
  | [] => []
  | x :: r => intsL [x.1, x.2] ++ entsB r
def ebody (l : List (Int × Int)) : List UInt8 := intL l.length ++ entsB l
def sealL (t : List UInt8) : List UInt8 := fourL (crcL t) ++ t
def ebytes (l : List (Int × Int)) : List UInt8 := sealL (ebody l)
def pairsS : Nat → RS → List (Int × Int) × RS
  | 0, s => ([], s)
  | n + 1, s => (((numS s).1, (numS (numS s).2).1) :: (pairsS n (numS (numS s).2).2).1, (pairsS n (numS (numS s).2).2).2)
def riseB : Int → Int → List (Int × Int) → Bool
  | _, _, [] => true
  | e, o, x :: r => decide (e < x.1) && decide (o < x.2) && inB x.1 && inB x.2 && riseB x.1 x.2 r
def eload (b : List UInt8) : List (Int × Int) × Int :=
  if b.length < 4 then ([], 5)
  else if fourN b ≠ crcL (b.drop 4) then ([], 6)
  else if doneS (pairsS (countS 200 ⟨b.drop 4, false⟩).1.toNat (countS 200 ⟨b.drop 4, false⟩).2).2 && riseB (-1) (-1) (pairsS (countS 200 ⟨b.drop 4, false⟩).1.toNat (countS 200 ⟨b.drop 4, false⟩).2).1 then
    ((pairsS (countS 200 ⟨b.drop 4, false⟩).1.toNat (countS 200 ⟨b.drop 4, false⟩).2).1, 0)
  else ([], 4)

/-- Entries that may be a cache's. -/
structure EOk (l : List (Int × Int)) : Prop where
  rise : l.Pairwise (fun x y => x.1 < y.1 ∧ x.2 < y.2)
  num : ∀ x ∈ l, (0 ≤ x.1 ∧ x.1 ≤ 1000000000) ∧ (0 ≤ x.2 ∧ x.2 ≤ 1000000000)
  few : l.length ≤ 200

theorem riseB_iff : ∀ (l : List (Int × Int)) (e o : Int), riseB e o l = true ↔ l.Pairwise (fun x y => x.1 < y.1 ∧ x.2 < y.2) ∧ ∀ x ∈ l, ((0 ≤ x.1 ∧ x.1 ≤ 1000000000) ∧ (0 ≤ x.2 ∧ x.2 ≤ 1000000000)) ∧ e < x.1 ∧ o < x.2
  | [], e, o => by simp [riseB]
  | x :: r, e, o => by
    simp only [riseB, Bool.and_eq_true, decide_eq_true_eq, inB_iff, riseB_iff r x.1 x.2, List.pairwise_cons, List.mem_cons, forall_eq_or_imp]
    constructor
    · rintro ⟨⟨⟨⟨h1, h2⟩, h3⟩, h4⟩, h5, h6⟩
      exact ⟨⟨fun y hy => (h6 y hy).2, h5⟩, ⟨⟨h3, h4⟩, h1, h2⟩, fun y hy => ⟨(h6 y hy).1, by have := (h6 y hy).2; omega, by have := (h6 y hy).2; omega⟩⟩
    · rintro ⟨⟨h1, h2⟩, ⟨⟨h3, h4⟩, h5, h6⟩, h7⟩
      exact ⟨⟨⟨⟨h5, h6⟩, h3⟩, h4⟩, h2, fun y hy => ⟨(h7 y hy).1, h1 y hy⟩⟩
theorem eok_rise {l : List (Int × Int)} (h : EOk l) : riseB (-1) (-1) l = true :=
  (riseB_iff l _ _).2 ⟨h.rise, fun x hx => ⟨h.num x hx, by have := h.num x hx; omega, by have := h.num x hx; omega⟩⟩
theorem eok_of {l : List (Int × Int)} (h : riseB (-1) (-1) l = true) (hl : l.length ≤ 200) : EOk l := by
  obtain ⟨h1, h2⟩ := (riseB_iff l _ _).1 h
  exact ⟨h1, fun x hx => (h2 x hx).1, hl⟩

theorem entsB_append : ∀ l m : List (Int × Int), entsB (l ++ m) = entsB l ++ entsB m
  | [], m => rfl
  | x :: r, m => by simp [entsB, entsB_append r m]
theorem entsB_take (l : List (Int × Int)) (k : Nat) (h : k < l.length) : entsB (l.take (k + 1)) = entsB (l.take k) ++ intsL [l[k].1, l[k].2] := by
  rw [← List.take_append_getElem h, entsB_append]
  simp [entsB]
theorem entsB_length : ∀ l : List (Int × Int), (entsB l).length ≤ l.length * 20
  | [] => by simp [entsB]
  | x :: r => by
    have := entsB_length r
    have h2 := intsL_length [x.1, x.2]
    simp only [List.length_cons, List.length_nil] at h2
    simp only [entsB, List.length_append, List.length_cons]
    omega
theorem ebody_length (l : List (Int × Int)) : (ebody l).length ≤ 10 + l.length * 20 := by
  have := entsB_length l
  have h2 := (intL_length (l.length : Int)).2
  simp only [ebody, List.length_append]
  omega
theorem sealL_length (t : List UInt8) : (sealL t).length = 4 + t.length := by simp [sealL, fourL]; omega
theorem ebytes_length (l : List (Int × Int)) : (ebytes l).length ≤ 14 + l.length * 20 := by
  have := ebody_length l
  unfold ebytes
  rw [sealL_length]
  omega
theorem seal_drop (t : List UInt8) : (sealL t).drop 4 = t := rfl
theorem seal_four (t : List UInt8) : fourN (sealL t) = crcL t := fourN_fourL _ _ (crcL_lt t)

theorem pairs_back : ∀ (l : List (Int × Int)) (more : List UInt8), (∀ x ∈ l, I64 x.1 ∧ I64 x.2) → pairsS l.length ⟨entsB l ++ more, false⟩ = (l, ⟨more, false⟩)
  | [], more, _ => rfl
  | x :: r, more, h => by
    have ih := pairs_back r more (fun y hy => h y (by simp [hy]))
    obtain ⟨h1, h2⟩ := h x (by simp)
    have e : entsB (x :: r) ++ more = intL x.1 ++ (intL x.2 ++ (entsB r ++ more)) := by simp [entsB, intsL]
    simp only [List.length_cons, pairsS, e, numS_intL _ _ h1, numS_intL _ _ h2, ih]
theorem num_i64 {n : Int} (h : 0 ≤ n ∧ n ≤ 1000000000) : I64 n := by unfold I64; omega
/-- What is written is read. -/
theorem eload_ebytes {l : List (Int × Int)} (h : EOk l) : eload (ebytes l) = (l, 0) := by
  have hf := h.few
  have e1 : countS 200 ⟨ebody l, false⟩ = ((l.length : Int), ⟨entsB l, false⟩) := countS_intL 200 _ _ (by unfold I64; omega) (by omega) (by omega)
  have e2 := pairs_back l [] (fun x hx => ⟨num_i64 (h.num x hx).1, num_i64 (h.num x hx).2⟩)
  rw [List.append_nil] at e2
  unfold eload ebytes
  rw [seal_drop, seal_four, e1, if_neg (by rw [sealL_length]; omega), if_neg (by simp)]
  simp only [Int.toNat_natCast, e2, eok_rise h, doneS]
  rfl
theorem pairs_length : ∀ (n : Nat) (s : RS), (pairsS n s).1.length = n
  | 0, s => rfl
  | n + 1, s => by simp [pairsS, pairs_length n]
theorem countS_rng (most : Int) (s : RS) (h : 0 ≤ most) : 0 ≤ (countS most s).1 ∧ (countS most s).1 ≤ most := by
  unfold countS
  split
  · simp; exact h
  · omega
/-- What is read may be a cache's. -/
theorem eload_ok {b : List UInt8} (h : (eload b).2 = 0) : EOk (eload b).1 := by
  unfold eload at h ⊢
  have hr := countS_rng 200 ⟨b.drop 4, false⟩ (by omega)
  generalize countS 200 ⟨b.drop 4, false⟩ = C at *
  have hp := pairs_length C.1.toNat C.2
  generalize pairsS C.1.toNat C.2 = P at *
  by_cases h1 : b.length < 4
  · rw [if_pos h1] at h; cases h
  · rw [if_neg h1] at h ⊢
    by_cases h2 : fourN b ≠ crcL (b.drop 4)
    · rw [if_pos h2] at h; cases h
    · rw [if_neg h2] at h ⊢
      cases h3 : (doneS P.2 && riseB (-1) (-1) P.1) with
      | false => rw [h3] at h; cases h
      | true =>
        simp only [if_true]
        refine eok_of ?_ (by rw [hp]; omega)
        simp at h3
        exact h3.2
theorem eload_no {b : List UInt8} (h : (eload b).2 ≠ 0) : (eload b).1 = [] := by
  unfold eload at h ⊢
  split
  · rfl
  · split
    · rfl
    · split
      · rename_i a b c
        rw [if_neg a, if_neg b, if_pos c] at h
        exact absurd rfl h
      · rfl
theorem eload_le (b : List UInt8) : 0 ≤ (eload b).2 ∧ (eload b).2 ≤ 6 := by
  unfold eload
  split
  · simp
  · split
    · simp
    · split <;> simp

/-- What begins ahead of an offset. -/
def cutW (l : List (Int × Int)) (o : Int) : List (Int × Int) := l.filter fun x => decide (x.2 < o)
/-- Where halving comes out. -/
structure FoundAt (l : List (Int × Int)) (p : Int × Int → Bool) (r : Nat) : Prop where
  le : r ≤ l.length
  ahead : r = 0 ∨ ∀ x, l[r - 1]? = some x → p x = false
  at_ : r = l.length ∨ ∀ x, l[r]? = some x → p x = true
theorem pair_at {l : List (Int × Int)} (h : l.Pairwise (fun x y => x.1 < y.1 ∧ x.2 < y.2)) {i j : Nat} {x y : Int × Int} (hi : l[i]? = some x) (hj : l[j]? = some y) (hij : i < j) : x.1 < y.1 ∧ x.2 < y.2 := by
  obtain ⟨a1, a2⟩ := List.getElem?_eq_some_iff.1 hi
  obtain ⟨b1, b2⟩ := List.getElem?_eq_some_iff.1 hj
  have := List.pairwise_iff_getElem.1 h i j a1 b1 hij
  rw [a2, b2] at this
  exact this
/-- All ahead of it are not so, all behind it are. -/
theorem FoundAt.both {l : List (Int × Int)} {p : Int × Int → Bool} {r : Nat} (f : FoundAt l p r) (h : EOk l) (hp : ∀ x y : Int × Int, x.1 < y.1 ∧ x.2 < y.2 → p x = true → p y = true) :
    (∀ (i : Nat) x, l[i]? = some x → (p x = true ↔ r ≤ i)) := by
  intro i x hx
  have hi := (List.getElem?_eq_some_iff.1 hx).1
  constructor
  · intro hpx
    rcases Nat.lt_or_ge i r with hlt | hge
    · exfalso
      have hr := f.le
      rcases f.ahead with h0 | h0
      · omega
      · have hl : r - 1 < l.length := by omega
        have hy : l[r - 1]? = some l[r - 1] := by simp [hl]
        have hf := h0 _ hy
        rcases Nat.lt_or_ge i (r - 1) with h1 | h1
        · have := hp x l[r - 1] (pair_at h.rise hx hy h1) hpx
          rw [hf] at this; cases this
        · have e : i = r - 1 := by omega
          subst e
          rw [hx] at hy
          have := h0 x hx
          rw [hpx] at this; cases this
    · exact hge
  · intro hri
    rcases f.at_ with h0 | h0
    · omega
    · have hl : r < l.length := by omega
      have hy : l[r]? = some l[r] := by simp [hl]
      have hf := h0 _ hy
      rcases Nat.lt_or_ge r i with h1 | h1
      · exact hp l[r] x (pair_at h.rise hy hx h1) hf
      · have e : i = r := by omega
        subst e
        exact h0 x hx
theorem filter_take (l : List (Int × Int)) (q : Int × Int → Bool) (r : Nat) (h : ∀ (i : Nat) x, l[i]? = some x → (q x = true ↔ i < r)) : l.filter q = l.take r := by
  conv => lhs; rw [← List.take_append_drop r l]
  rw [List.filter_append]
  have h1 : (l.take r).filter q = l.take r := List.filter_eq_self.2 (fun x hx => by
    obtain ⟨i, hi, e⟩ := List.getElem_of_mem hx
    rw [List.length_take] at hi
    refine (h i x ?_).2 (by omega)
    rw [← e, List.getElem_take]
    simp <;> omega)
  have h2 : (l.drop r).filter q = [] := List.filter_eq_nil_iff.2 (fun x hx => by
    obtain ⟨i, hi, e⟩ := List.getElem_of_mem hx
    rw [List.length_drop] at hi
    intro hq
    have := (h (r + i) x (by rw [← e, List.getElem_drop]; simp <;> omega)).1 hq
    omega)
  rw [h1, h2, List.append_nil]
theorem found_cut {l : List (Int × Int)} {o : Int} {r : Nat} (h : EOk l) (f : FoundAt l (fun x => decide (o ≤ x.2)) r) : l.take r = cutW l o := by
  have hb := f.both h (fun x y hxy hx => by simp at hx ⊢; omega)
  refine (filter_take l _ r (fun i x hx => ?_)).symm
  have := hb i x hx
  simp only [decide_eq_true_eq] at this ⊢
  omega
theorem EOk.sub {l m : List (Int × Int)} (h : EOk l) (hs : m.Sublist l) : EOk m :=
  ⟨h.rise.sublist hs, fun x hx => h.num x (hs.subset hx), by have := hs.length_le; have := h.few; omega⟩
theorem EOk.cut {l : List (Int × Int)} (h : EOk l) (o : Int) : EOk (cutW l o) := h.sub List.filter_sublist

/-- What Begin makes of entries: the error, or what is kept. -/
def newW (l : List (Int × Int)) (e o : Int) : Nat × List (Int × Int) := if 200 ≤ (cutW l o).length then (3, l) else (0, cutW l o ++ [(e, o)])
def beginW (l : List (Int × Int)) (e o : Int) : Nat × List (Int × Int) :=
  if ¬ ((0 ≤ e ∧ e ≤ 1000000000) ∧ (0 ≤ o ∧ o ≤ 1000000000)) then (1, l)
  else match l.getLast? with
    | none => newW l e o
    | some x => if e = x.1 ∧ x.2 ≤ o then (0, l) else if e ≤ x.1 then (13, l) else newW l e o
/-- What Delete makes of entries. -/
def delW (l : List (Int × Int)) (o : Int) : List (Int × Int) :=
  match (l.filter fun x => decide (x.2 ≤ o)).getLast? with
  | none => l
  | some x => (x.1, o) :: l.filter fun x => decide (o < x.2)
theorem mem_cutW {l : List (Int × Int)} {o : Int} {x : Int × Int} : x ∈ cutW l o ↔ x ∈ l ∧ x.2 < o := by simp [cutW]
theorem getLast_top {l : List (Int × Int)} {x : Int × Int} (h : l.Pairwise (fun x y => x.1 < y.1 ∧ x.2 < y.2)) (hx : l.getLast? = some x) : ∀ y ∈ l, y.1 ≤ x.1 ∧ y.2 ≤ x.2 := by
  intro y hy
  obtain ⟨l', rfl⟩ := List.getLast?_eq_some_iff.1 hx
  rw [List.pairwise_append] at h
  rcases List.mem_append.1 hy with h1 | h1
  · have := h.2.2 y h1 x (by simp); omega
  · simp at h1; subst h1; omega
theorem newW_ok {l : List (Int × Int)} (h : EOk l) {e o : Int} (he : 0 ≤ e ∧ e ≤ 1000000000) (ho : 0 ≤ o ∧ o ≤ 1000000000) (ht : ∀ y ∈ l, y.1 < e) : EOk (newW l e o).2 := by
  unfold newW
  split
  · exact h
  · rename_i hl
    have hc := h.cut o
    refine ⟨?_, fun x hx => ?_, by simp; omega⟩
    · rw [List.pairwise_append]
      refine ⟨hc.rise, by simp, fun x hx y hy => ?_⟩
      simp at hy; subst hy
      obtain ⟨h1, h2⟩ := mem_cutW.1 hx
      exact ⟨ht x h1, h2⟩
    · rcases List.mem_append.1 hx with h1 | h1
      · exact hc.num x h1
      · simp at h1; subst h1; exact ⟨he, ho⟩
theorem beginW_ok {l : List (Int × Int)} (h : EOk l) (e o : Int) : EOk (beginW l e o).2 := by
  unfold beginW
  by_cases hn : (0 ≤ e ∧ e ≤ 1000000000) ∧ (0 ≤ o ∧ o ≤ 1000000000)
  · rw [if_neg (fun h => h hn)]
    cases hx : l.getLast? with
    | none =>
      have : l = [] := List.getLast?_eq_none_iff.1 hx
      exact newW_ok h hn.1 hn.2 (fun y hy => by subst this; simp at hy)
    | some x =>
      simp only
      split
      · exact h
      · split
        · exact h
        · rename_i h1 h2
          exact newW_ok h hn.1 hn.2 (fun y hy => by have := getLast_top h.rise hx y hy; omega)
  · rw [if_pos hn]; exact h
theorem delW_ok {l : List (Int × Int)} (h : EOk l) {o : Int} (ho : 0 ≤ o ∧ o ≤ 1000000000) : EOk (delW l o) := by
  unfold delW
  cases hx : (l.filter fun x => decide (x.2 ≤ o)).getLast? with
  | none => exact h
  | some x =>
    simp only
    have hm : x ∈ l.filter fun x => decide (x.2 ≤ o) := List.mem_of_getLast? hx
    simp at hm
    have hs : EOk (l.filter fun x => decide (o < x.2)) := h.sub List.filter_sublist
    refine ⟨List.pairwise_cons.2 ⟨fun y hy => ?_, hs.rise⟩, fun y hy => ?_, ?_⟩
    · simp at hy
      refine ⟨?_, hy.2⟩
      obtain ⟨i, hi, ei⟩ := List.getElem_of_mem hm.1
      obtain ⟨j, hj, ej⟩ := List.getElem_of_mem hy.1
      have hi' : l[i]? = some x := by rw [← ei]; simp [hi]
      have hj' : l[j]? = some y := by rw [← ej]; simp [hj]
      rcases Nat.lt_trichotomy i j with h1 | h1 | h1
      · exact (pair_at h.rise hi' hj' h1).1
      · subst h1; rw [hi'] at hj'; cases hj'; omega
      · have := (pair_at h.rise hj' hi' h1).2; omega
    · rcases List.mem_cons.1 hy with h1 | h1
      · subst h1; exact ⟨(h.num x hm.1).1, ho⟩
      · exact hs.num y h1
    · have hlen : (l.filter fun x => decide (o < x.2)).length < l.length := by
        rcases Nat.lt_or_ge (l.filter fun x => decide (o < x.2)).length l.length with h1 | h1
        · exact h1
        · have := List.filter_sublist (p := fun x : Int × Int => decide (o < x.2)) (l := l) |>.eq_of_length_le h1
          have := List.filter_eq_self.1 this x hm.1
          simp at this; omega
      have := h.few
      simp only [List.length_cons]; omega
end Go.Proofs.YtcffomhcmilcpaaGreat.W

/- Epochs without memory: where halving comes out, and what it tells. -/
namespace Go.Proofs.YtcffomhcmilcpaaGreat.W
set_option linter.unusedSimpArgs false
set_option linter.unusedVariables false

theorem filter_drop (l : List (Int × Int)) (q : Int × Int → Bool) (r : Nat) (h : ∀ (i : Nat) x, l[i]? = some x → (q x = true ↔ r ≤ i)) : l.filter q = l.drop r := by
  conv => lhs; rw [← List.take_append_drop r l]
  rw [List.filter_append]
  have h1 : (l.drop r).filter q = l.drop r := List.filter_eq_self.2 (fun x hx => by
    obtain ⟨i, hi, e⟩ := List.getElem_of_mem hx
    rw [List.length_drop] at hi
    exact (h (r + i) x (by rw [← e, List.getElem_drop]; simp <;> omega)).2 (by omega))
  have h2 : (l.take r).filter q = [] := List.filter_eq_nil_iff.2 (fun x hx => by
    obtain ⟨i, hi, e⟩ := List.getElem_of_mem hx
    rw [List.length_take] at hi
    intro hq
    have := (h i x (by rw [← e, List.getElem_take]; simp <;> omega)).1 hq
    omega)
  rw [h1, h2, List.nil_append]
theorem take_last (l : List (Int × Int)) (r : Nat) (hr : r ≤ l.length) (h0 : r ≠ 0) : (l.take r).getLast? = l[r - 1]? := by
  rw [List.getLast?_eq_getElem?, List.length_take, Nat.min_eq_left hr, List.getElem?_take]
  rw [if_pos (by omega)]
theorem found_del {l : List (Int × Int)} {o : Int} {r : Nat} (h : EOk l) (f : FoundAt l (fun x => decide (o < x.2)) r) :
    (r = 0 → delW l o = l) ∧ (∀ x, r ≠ 0 → l[r - 1]? = some x → delW l o = (x.1, o) :: l.drop r) := by
  have hb := f.both h (fun x y hxy hx => by simp at hx ⊢; omega)
  have h1 : (l.filter fun x => decide (x.2 ≤ o)) = l.take r := filter_take l _ r (fun i x hx => by
    have := hb i x hx
    simp only [decide_eq_true_eq] at this ⊢
    omega)
  have h2 : (l.filter fun x => decide (o < x.2)) = l.drop r := filter_drop l _ r (fun i x hx => hb i x hx)
  unfold delW
  rw [h1, h2]
  constructor
  · rintro rfl; simp
  · intro x h0 hx
    rw [take_last l r f.le h0, hx]
/-- What End tells. -/
def endW (l : List (Int × Int)) (e next : Int) : Int × Int :=
  match (l.filter fun x => decide (x.1 ≤ e)).getLast? with
  | none => (-1, -1)
  | some x => (x.1, match (l.filter fun x => decide (e < x.1)).head? with | none => next | some y => y.2)
theorem found_end {l : List (Int × Int)} {e next : Int} {r : Nat} (h : EOk l) (f : FoundAt l (fun x => decide (e < x.1)) r) :
    (r = 0 → endW l e next = (-1, -1)) ∧ (∀ x, r ≠ 0 → l[r - 1]? = some x → (r = l.length → endW l e next = (x.1, next)) ∧ (∀ y, l[r]? = some y → endW l e next = (x.1, y.2))) := by
  have hb := f.both h (fun x y hxy hx => by simp at hx ⊢; omega)
  have h1 : (l.filter fun x => decide (x.1 ≤ e)) = l.take r := filter_take l _ r (fun i x hx => by
    have := hb i x hx
    simp only [decide_eq_true_eq] at this ⊢
    omega)
  have h2 : (l.filter fun x => decide (e < x.1)) = l.drop r := filter_drop l _ r (fun i x hx => hb i x hx)
  unfold endW
  rw [h1, h2]
  constructor
  · rintro rfl; simp
  · intro x h0 hx
    rw [take_last l r f.le h0, hx]
    constructor
    · intro hr
      subst hr
      simp
    · intro y hy
      have : (l.drop r).head? = some y := by rw [List.head?_eq_getElem?, List.getElem?_drop]; simpa using hy
      simp [this]
def lastW (l : List (Int × Int)) : Int := match l.getLast? with | none => -1 | some x => x.1

/-- Behind Cut nothing begins at the offset or behind it, behind Delete nothing ahead of it. -/
theorem cutW_lt {l : List (Int × Int)} {o : Int} : ∀ x ∈ cutW l o, x.2 < o := fun x hx => (mem_cutW.1 hx).2
theorem delW_ge {l : List (Int × Int)} {o : Int} : ∀ x ∈ delW l o, o ≤ x.2 := by
  unfold delW
  cases hx : (l.filter fun x => decide (x.2 ≤ o)).getLast? with
  | none =>
    have := List.getLast?_eq_none_iff.1 hx
    intro x hm
    have := List.filter_eq_nil_iff.1 this x hm
    simp at this
    omega
  | some x =>
    intro y hy
    rcases List.mem_cons.1 hy with h1 | h1
    · subst h1; exact Int.le_refl _
    · simp at h1; omega

/-- What End tells of entries that rise. -/
theorem endW_in {l : List (Int × Int)} (h : EOk l) (e next : Int) (i : Nat) (x : Int × Int) (hi : l[i]? = some x) (hx : x.1 = (endW l e next).1) :
    x.1 ≤ e ∧ (i + 1 = l.length → (endW l e next).2 = next) ∧ (∀ y, l[i + 1]? = some y → (endW l e next).2 = y.2 ∧ e < y.1) := by
  have hn := h.num x (List.mem_of_getElem? hi)
  -- the place where halving comes out
  have hf : ∃ r, FoundAt l (fun x => decide (e < x.1)) r := by
    refine ⟨l.findIdx (fun x => decide (e < x.1)), List.findIdx_le_length, ?_, ?_⟩
    · rcases Nat.eq_zero_or_pos (l.findIdx (fun x => decide (e < x.1))) with h0 | h0
      · exact .inl h0
      · refine .inr (fun z hz => ?_)
        have hlt : l.findIdx (fun x => decide (e < x.1)) - 1 < l.findIdx (fun x => decide (e < x.1)) := by omega
        obtain ⟨h1, h2⟩ := List.getElem?_eq_some_iff.1 hz
        have := List.not_of_lt_findIdx hlt
        rw [h2] at this
        simpa using this
    · rcases Nat.lt_or_ge (l.findIdx (fun x => decide (e < x.1))) l.length with h0 | h0
      · refine .inr (fun z hz => ?_)
        obtain ⟨h1, h2⟩ := List.getElem?_eq_some_iff.1 hz
        have := List.findIdx_getElem (p := fun x : Int × Int => decide (e < x.1)) (xs := l) (w := h0)
        rw [h2] at this
        exact this
      · exact .inl (by have := List.findIdx_le_length (p := fun x : Int × Int => decide (e < x.1)) (xs := l); omega)
  obtain ⟨r, f⟩ := hf
  have hb := f.both h (fun x y hxy hx => by simp at hx ⊢; omega)
  obtain ⟨g1, g2⟩ := found_end (next := next) h f
  have hr := f.le
  have hil := (List.getElem?_eq_some_iff.1 hi).1
  rcases Nat.eq_zero_or_pos r with h0 | h0
  · rw [g1 h0] at hx; simp at hx; omega
  · have hz : l[r - 1]? = some l[r - 1] := by simp
    obtain ⟨k1, k2⟩ := g2 _ (by omega) hz
    have hfst : (endW l e next).1 = l[r - 1].1 := by
      rcases Nat.lt_or_ge r l.length with h3 | h3
      · rw [k2 l[r] (by simp [h3])]
      · rw [k1 (by omega)]
    have hir : i = r - 1 := by
      rw [hfst] at hx
      rcases Nat.lt_trichotomy i (r - 1) with h3 | h3 | h3
      · have := (pair_at h.rise hi hz h3).1; omega
      · exact h3
      · have := (pair_at h.rise hz hi h3).1; omega
    refine ⟨?_, fun hl => ?_, fun y hy => ?_⟩
    · have := hb i x hi
      simp only [decide_eq_true_eq] at this
      omega
    · rw [k1 (by omega)]
    · have e1 : i + 1 = r := by omega
      rw [e1] at hy
      refine ⟨by rw [k2 y hy], ?_⟩
      have := (hb r y hy).2 (Nat.le_refl _)
      simpa using this
theorem endW_none {l : List (Int × Int)} (h : EOk l) (e next : Int) (hx : (endW l e next).1 = -1) : (endW l e next).2 = -1 ∧ ∀ x, l[0]? = some x → e < x.1 := by
  unfold endW at hx ⊢
  cases hg : (l.filter fun x => decide (x.1 ≤ e)).getLast? with
  | none =>
    refine ⟨rfl, fun x hx => ?_⟩
    have := List.filter_eq_nil_iff.1 (List.getLast?_eq_none_iff.1 hg) x (List.mem_of_getElem? hx)
    simp at this
    exact this
  | some z =>
    rw [hg] at hx
    simp only at hx
    have hm : z ∈ l.filter fun x => decide (x.1 ≤ e) := List.mem_of_getLast? hg
    simp at hm
    have := h.num z hm.1
    omega

/-- Epochs that begin one behind the other. -/
def stepsL (step : Int) (n : Nat) : List (Int × Int) := (List.range n).map fun (i : Nat) => ((i : Int), (i : Int) * step)
theorem steps_length (step : Int) (n : Nat) : (stepsL step n).length = n := by simp [stepsL]
theorem steps_succ (step : Int) (n : Nat) : stepsL step (n + 1) = stepsL step n ++ [((n : Int), (n : Int) * step)] := by simp [stepsL, List.range_succ]
theorem steps_cut (step : Int) (n : Nat) (h : 1 ≤ step) : cutW (stepsL step n) ((n : Int) * step) = stepsL step n := by
  refine List.filter_eq_self.2 (fun x hx => ?_)
  simp only [stepsL, List.mem_map, List.mem_range] at hx
  obtain ⟨i, hi, rfl⟩ := hx
  simp only [decide_eq_true_eq]
  exact Int.mul_lt_mul_of_pos_right (by omega) (by omega)
theorem steps_begin (step : Int) (n : Nat) (h : 1 ≤ step) (h2 : step ≤ 1000) (hn : n ≤ 205) : beginW (stepsL step n) (n : Int) ((n : Int) * step) = if n < 200 then (0, stepsL step (n + 1)) else (3, stepsL step n) := by
  have hm : 0 ≤ (n : Int) * step := Int.mul_nonneg (by omega) (by omega)
  have hm2 : (n : Int) * step ≤ 205 * 1000 := Int.mul_le_mul (by omega) h2 (by omega) (by omega)
  have hN : newW (stepsL step n) (n : Int) ((n : Int) * step) = if n < 200 then (0, stepsL step (n + 1)) else (3, stepsL step n) := by
    unfold newW
    rw [steps_cut step n h, steps_length, steps_succ]
    by_cases h3 : n < 200
    · rw [if_pos h3, if_neg (by omega)]
    · rw [if_neg h3, if_pos (by omega)]
  unfold beginW
  rw [if_neg (fun hh => hh ⟨⟨by omega, by omega⟩, ⟨hm, by omega⟩⟩)]
  cases hx : (stepsL step n).getLast? with
  | none => exact hN
  | some x =>
    have hm : x ∈ stepsL step n := List.mem_of_getLast? hx
    simp only [stepsL, List.mem_map, List.mem_range] at hm
    obtain ⟨i, hi, rfl⟩ := hm
    simp only
    rw [if_neg (by omega), if_neg (by omega)]
    exact hN
theorem steps_last (step : Int) (n : Nat) : lastW (stepsL step n) = (n : Int) - 1 := by
  cases n with
  | zero => rfl
  | succ n => rw [steps_succ]; simp [lastW]
end Go.Proofs.YtcffomhcmilcpaaGreat.W

/- Seal and Unseal; what the file has of entries. -/
namespace Go.Proofs.YtcffomhcmilcpaaGreat.W
open Go.RowKit Go.Maps
set_option maxRecDepth 100000
set_option linter.unusedSimpArgs false
set_option linter.unusedVariables false

set_option maxHeartbeats 400000 in
theorem pfour_any (n : Nat) (w : World) (h : n < 4294967296) : Calls Tryz.prog 100 #[.int .i64 (n : Int)] w fun e w' => e = .returned (.string (strOf (fourL n))) ∧ Below w.heap.size w w' := by
  have hcv := four_conv w n h
  go_enter Tryz.func100, Tryz.ntmps100
  go_wp2
  go_ret
  exact ⟨rfl, (Below.refl _ _).alloc (Nat.le_refl _) _⟩

set_option maxHeartbeats 400000 in
theorem preadFour_any (s : ByteArray) (w : World) (h4 : 4 ≤ s.size) (hs : s.size ≤ maxLen) :
    Calls Tryz.prog 86 #[.string s] w fun e w' => e = .returned (.int .i64 (fourN s.data.toList : Nat)) ∧ w = w' := by
  unfold maxLen at hs
  go_enter Tryz.func86, Tryz.ntmps86
  go_wp2
  go_loop [3, 5] (fun c i => ∃ k : Nat, k ≤ 4 ∧ i = .int .i64 k ∧ c = .int .i64 (accN (s.data.toList.take k) : Nat)) (fun _ i => 4 - (intOf i).toNat)
  case atStart => exact ⟨0, Nat.zero_le _, rfl, rfl⟩
  case round =>
    obtain ⟨k, hk, rfl, rfl⟩ := hrel
    by_cases hlt : k < 4
    · have hlt' : (k : Int) < 4 := by omega
      have hA := accN_lt s k hk (by omega)
      have h3 : 256 ^ k ≤ 256 ^ 3 := Nat.pow_le_pow_right (by omega) (by omega)
      have hks : k < s.size := by omega
      have hks' : (k : Int) < (s.size : Int) := by omega
      have hsn : Hid (accN (s.data.toList.take (k + 1)) = accN (s.data.toList.take k) * 256 + s[k].toNat) := by show _ = _; rw [take_snoc s k hks, accN_snoc]
      have hA2 : accN (s.data.toList.take k) < 16777216 := by omega
      clear hA h3
      generalize accN (s.data.toList.take k) = A at *
      have hb := s[k].toNat_lt
      have hor := or_byte A s[k].toNat hA2 (by omega)
      generalize hZ : A * 256 + s[k].toNat = Z at *
      clear hZ
      go_wp2
      go_round
      case rel => exact ⟨k + 1, by omega, by go_num, by rw [hsn.out]⟩
      case measure => simp [intOf]; omega
    · have hlt' : ¬ (k : Int) < 4 := by omega
      have hk4 : k = 4 := by omega
      have HF := hid (accN_four s.data.toList (by simpa using h4))
      subst hk4
      go_wp2
      go_ret
      exact ⟨ret_int (by rw [HF.out]), rfl⟩

set_option maxHeartbeats 400000 in
theorem pseal_any (t : List UInt8) (w : World) (h : t.length ≤ 1000000) : Calls Tryz.prog 54 #[.string (strOf t)] w fun e w' => e = .returned (.string (strOf (sealL t))) ∧ Below w.heap.size w w' := by
  have HC := hid (crc_any (strOf t) w (by rw [strOf_size]; unfold maxLen; omega))
  rw [strOf_data] at HC
  have HF := hid (pfour_any (crcL t) w (crcL_lt t))
  have hsz := strOf_size t
  have hsz4 := strOf_size (fourL (crcL t))
  have h4 : (fourL (crcL t)).length = 4 := rfl
  have HA := hid (strOf_append (fourL (crcL t)) t)
  go_enter Tryz.func54, Tryz.ntmps54
  go_wp2_with (first | (go_at_call 87; refine HC.out.mono ?_; rintro e w1 ⟨rfl, rfl⟩) | (go_at_call 100; refine HF.out.mono ?_; rintro e w2 ⟨rfl, hb2⟩))
  go_ret
  exact ⟨by rw [HA.out]; rfl, hb2⟩
set_option maxHeartbeats 800000 in
theorem punseal_any (b : List UInt8) (w : World) (h : b.length ≤ 100000000) : Calls Tryz.prog 41 #[.string (strOf b)] w fun e w' =>
    e = .returned (if b.length < 4 then .tuple #[.string ⟨#[]⟩, .int .i64 5] else if fourN b ≠ crcL (b.drop 4) then .tuple #[.string ⟨#[]⟩, .int .i64 6] else .tuple #[.string (strOf (b.drop 4)), .int .i64 0]) ∧ w' = w := by
  have hsz := strOf_size b
  by_cases h4 : b.length < 4
  · rw [if_pos h4]
    have h4' : ((strOf b).size : Int) < 4 := by omega
    have h4'' : (b.length : Int) < 4 := by omega
    go_enter Tryz.func41, Tryz.ntmps41
    go_wp2
    go_ret2
    exact ⟨rfl, rfl⟩
  · rw [if_neg h4]
    have h4' : ¬ ((strOf b).size : Int) < 4 := by omega
    have h4'' : ¬ (b.length : Int) < 4 := by omega
    have hx := extract_drop b 4
    have HR := hid (preadFour_any (strOf b) w (by omega) (by unfold maxLen; omega))
    rw [strOf_data] at HR
    have HC := hid (crc_any (strOf (b.drop 4)) w (by rw [strOf_size]; simp; unfold maxLen; omega))
    rw [strOf_data] at HC
    have h5 : (4 : Int) ≤ ((strOf b).size : Int) := by omega
    have h5' : (4 : Int) ≤ (b.length : Int) := by omega
    generalize crcL (b.drop 4) = C at *
    generalize fourN b = F at *
    by_cases he : F = C
    · subst he
      rw [if_neg (fun h => h rfl)]
      go_enter Tryz.func41, Tryz.ntmps41
      go_wp2_with (first | (go_at_call 86; refine HR.out.mono ?_; rintro e w1 ⟨rfl, rfl⟩) | (go_at_call 87; refine HC.out.mono ?_; rintro e w1 ⟨rfl, rfl⟩))
      go_ret2
      exact ⟨rfl, rfl⟩
    · rw [if_pos he]
      have hne : ((F : Int) != (C : Int)) = true := by simp; omega
      go_enter Tryz.func41, Tryz.ntmps41
      go_wp2_with (first | (go_at_call 86; refine HR.out.mono ?_; rintro e w1 ⟨rfl, rfl⟩) | (go_at_call 87; refine HC.out.mono ?_; rintro e w1 ⟨rfl, rfl⟩))
      go_ret2
      exact ⟨rfl, rfl⟩

end Go.Proofs.YtcffomhcmilcpaaGreat.W

/- An image as bytes, without memory; lists and texts behind a row of bytes. -/
namespace Go.Proofs.YtcffomhcmilcpaaGreat
open Go.RowKit Go.Maps
set_option maxRecDepth 100000
set_option linter.unusedSimpArgs false
set_option linter.unusedVariables false

def lstB (l : List Int) : List UInt8 := W.intL (l.length : Int) ++ W.intsL l
def bitI (b : Bool) : Int := if b then 1 else 0
def brOne (p : Int × Br) : List UInt8 := W.intsL [p.1, p.2.life, bitI p.2.up]
def tpOne (t : Tp) : List UInt8 := W.textL t.name.data.toList ++ W.intsL [t.first, t.count]
def ptOne (p : Pt) : List UInt8 := W.intsL [p.leader, p.epoch, p.ver, p.min] ++ lstB p.isr ++ lstB p.reps ++ lstB p.add ++ lstB p.rem
def brB (bs : BM) : List UInt8 := (bs.map brOne).flatten
def tpB (ts : List Tp) : List UInt8 := (ts.map tpOne).flatten
def ptB (ps : List Pt) : List UInt8 := (ps.map ptOne).flatten
def bodyI (I : Im) : List UInt8 :=
  W.intL I.applied ++ (W.intL (I.brs.length : Int) ++ brB I.brs) ++ (W.intL (I.tops.length : Int) ++ tpB I.tops) ++ (W.intL (I.parts.length : Int) ++ ptB I.parts) ++ lstB I.eps
def keepI (I : Im) : List UInt8 := W.sealL (bodyI I)

theorem flat_take {α : Type} (f : α → List UInt8) (l : List α) (k : Nat) (h : k < l.length) : ((l.take (k + 1)).map f).flatten = ((l.take k).map f).flatten ++ f l[k] := by
  rw [List.take_succ_eq_append_getElem h, List.map_append, List.flatten_append]
  simp only [List.map_cons, List.map_nil, List.flatten_cons, List.flatten_nil, List.append_nil]
theorem flat_len {α : Type} (f : α → List UInt8) (n : Nat) : ∀ (l : List α), (∀ x ∈ l, (f x).length ≤ n) → ((l.map f).flatten).length ≤ l.length * n
  | [], _ => by simp
  | x :: r, h => by
    have h1 := h x (by simp)
    have h2 := flat_len f n r (fun y hy => h y (by simp [hy]))
    simp only [List.map_cons, List.flatten_cons, List.length_append, List.length_cons]
    rw [Nat.add_mul]
    omega
theorem lst_len (l : List Int) : (lstB l).length ≤ 10 + l.length * 10 := by
  unfold lstB
  have h1 := (W.intL_length (l.length : Int)).2
  have h2 := W.intsL_length l
  simp only [List.length_append]
  omega
theorem br_len (p : Int × Br) : (brOne p).length ≤ 30 := by
  have := W.intsL_length [p.1, p.2.life, bitI p.2.up]
  unfold brOne
  simpa using this
theorem tp_len (t : Tp) (h : t.name.size ≤ 32) : (tpOne t).length ≤ 62 := by
  unfold tpOne W.textL
  have h1 := (W.intL_length (t.name.data.toList.length : Int)).2
  have h2 := W.intsL_length [t.first, t.count]
  have h3 : t.name.data.toList.length ≤ 32 := by simpa using h
  simp only [List.length_append]
  simp only [List.length_cons, List.length_nil] at h2
  omega
theorem pt_len {p : Pt} (h : RightP p) : (ptOne p).length ≤ 400 := by
  unfold ptOne
  have h1 := W.intsL_length [p.leader, p.epoch, p.ver, p.min]
  have h2 := lst_len p.isr
  have h3 := lst_len p.reps
  have h4 := lst_len p.add
  have h5 := lst_len p.rem
  have k2 := ids_len h.isr
  have k3 := ids_len h.reps
  have k4 := ids_len h.add
  have k5 := ids_len h.rem
  simp only [List.length_append]
  simp only [List.length_cons, List.length_nil] at h1
  omega
theorem brs_len {I : Im} (h : ImOk I) : (brB I.brs).length ≤ 210 := by
  have h1 := flat_len brOne 30 I.brs (fun p _ => br_len p)
  have h2 := keys_few h.keys (fun p hp => (h.brs p hp).1)
  unfold brB
  omega
theorem tps_len {I : Im} (h : ImOk I) : (tpB I.tops).length ≤ 1000 := by
  have h1 := flat_len tpOne 62 I.tops (fun t ht => tp_len t (h.name t ht))
  have h2 := h.topsFew
  unfold tpB
  omega
theorem pts_len {I : Im} (h : ImOk I) : (ptB I.parts).length ≤ 6400 := by
  have h1 := flat_len ptOne 400 I.parts (fun p hp => by
    obtain ⟨i, hi, e⟩ := List.getElem_of_mem hp
    exact pt_len (h.parts i p (by rw [← e]; exact List.getElem?_eq_getElem hi)).1)
  have h2 := h.few
  unfold ptB
  omega
theorem body_len {I : Im} (h : ImOk I) : (bodyI I).length ≤ 100000 := by
  have h1 := brs_len h
  have h2 := tps_len h
  have h3 := pts_len h
  have h4 := lst_len I.eps
  have h5 := h.eps
  have a1 := (W.intL_length I.applied).2
  have a2 := (W.intL_length (I.brs.length : Int)).2
  have a3 := (W.intL_length (I.tops.length : Int)).2
  have a4 := (W.intL_length (I.parts.length : Int)).2
  unfold bodyI
  simp only [List.length_append]
  omega
/-- Bytes of the call's own behind a world. -/
def KB (w0 w : World) (v : Value) (l : List UInt8) : Prop := W.Row w w0.heap.size v l ∧ Below w0.heap.size w0 w
theorem KB.shape {w0 w : World} {v : Value} {l : List UInt8} (h : KB w0 w v l) : ∃ a c, v = .slice a l.length c := by
  obtain ⟨oa, cap, e, _⟩ := row_shape (row_base h.1 (Nat.zero_le _))
  exact ⟨oa, cap, e⟩
theorem KB.under {w0 w w1 : World} {v : Value} {l : List UInt8} (h : KB w0 w v l) (hb : Below w.heap.size w w1) : KB w0 w1 v l := ⟨W.Row.under (B' := 0) h.1 hb, h.2.trans (hb.mono h.2.size)⟩
theorem KB.alloc {w0 w : World} {v : Value} {l : List UInt8} (h : KB w0 w v l) (O : Obj) : KB w0 (w.alloc O) v l := h.under ((Below.refl _ _).alloc (Nat.le_refl _) _)
/-- A block that is not the bytes' own is as it was. -/
theorem box_kept {w w1 : World} {O : Obj} {v v1 : Value} {B : Nat} {l : List UInt8} (hr : W.Row w B v l) (h : W.Grow (w.alloc O) w1 v v1) : w1.heap[w.heap.size]? = some O ∧ v1.ownBlock ≠ some w.heap.size := by
  obtain ⟨a, b, c⟩ := h.block (q := w.heap.size) (by simp) hr.fresh
  exact ⟨a.trans (heap_alloc_new _ _), b⟩
/-- Numbers that were just laid down. -/
theorem app_new {w0 w : World} {v : Value} {l : List UInt8} (h : KB w0 w v l) (ns : List Int) (hi : ∀ n ∈ ns, I64 n) (hl : l.length ≤ 100000000) (hn : ns.length ≤ 1000) (cs : Array Value) (hcs : cs = (ns.map fun n => .int .i64 n).toArray) (m : Nat) (hm : m = ns.length) :
    Calls Tryz.prog 49 #[v, .slice (some ⟨w.heap.size, 0, none⟩) m m] (w.alloc (.cells cs 3)) fun e w' => ∃ v', e = .returned v' ∧ KB w0 w' v' (l ++ W.intsL ns) ∧ W.Grow w w' v v' := by
  subst hm
  have hb0 : Below w0.heap.size w0 (w.alloc (.cells cs 3)) := h.2.alloc h.2.size _
  refine (W.appInts_any (h.1.alloc (.cells cs 3)) hb0.size (some ⟨w.heap.size, 0, none⟩) ns.length ns (.inr ⟨w.heap.size, 0, rfl, by simp, h.1.fresh, fun i hi => ?_⟩) hi (by omega)).mono ?_
  · rw [Nat.zero_add]
    exact cell_blk (heap_alloc_new _ _) i _ (by rw [hcs]; simp [hi])
  · rintro e w1 ⟨v', rfl, h1, h2, h3⟩
    exact ⟨v', rfl, ⟨h1, hb0.trans h2⟩, ((W.Grow.refl w v).alloc _).trans h3⟩
theorem intsL_one (n : Int) : W.intsL [n] = W.intL n := by simp [W.intsL]
theorem ints_in {w0 U : World} {v : Value} {l : List UInt8} (h : KB w0 U v l) {a : Option Addr} {c : Nat} {ns : List Int} (hi : IL w0 (.slice a ns.length c) ns) : W.IntsIn U v a ns := by
  obtain ⟨⟨a', cap, e, _, _, _, hat⟩, _, _⟩ := hi.under h.2
  obtain ⟨rfl, _, rfl⟩ := Value.slice.inj e
  by_cases hn : ns = []
  · exact .inl hn
  · obtain ⟨b, off, rfl, hb, hc⟩ := hat hn
    have hlt := IL.old hi hn b off _ _ rfl
    exact .inr ⟨b, off, rfl, hb, fun e => by have := h.1.own b e; omega, hc⟩
set_option maxHeartbeats 800000 in
theorem appList_any {w0 w : World} {v : Value} {l : List UInt8} (h : KB w0 w v l) {a : Option Addr} {c : Nat} {ns : List Int} (hi : IL w0 (.slice a ns.length c) ns) (hl : l.length ≤ 1000000) (hn : ns.length ≤ 1000) :
    Calls Tryz.prog 53 #[v, .slice a ns.length c] w fun e w' => ∃ v', e = .returned v' ∧ KB w0 w' v' (l ++ lstB ns) ∧ W.Grow w w' v v' := by
  obtain ⟨av, cv, rfl⟩ := h.shape
  have H1 := hid (app_new h [(ns.length : Int)] (fun n hn => by simp at hn; subst hn; unfold I64; omega) (by omega) (by simp) #[.int .i64 (ns.length : Int)] rfl 1 rfl)
  have HI : Hid (∀ U v', KB w0 U v' (l ++ W.intsL [(ns.length : Int)]) → Calls Tryz.prog 49 #[v', .slice a ns.length c] U fun e w' => ∃ v2, e = .returned v2 ∧ KB w0 w' v2 (l ++ lstB ns) ∧ W.Grow U w' v' v2) := fun U v' hW => by
    have hlen : (l ++ W.intsL [(ns.length : Int)]).length ≤ 1000010 := by
      have := W.intsL_length [(ns.length : Int)]
      simp only [List.length_cons, List.length_nil] at this
      simp only [List.length_append]
      omega
    refine (W.appInts_any hW.1 hW.2.size a c ns (ints_in hW hi) (fun n hn => hi.ok n hn) (by omega)).mono ?_
    rintro e w1 ⟨v2, rfl, k1, k2, k3⟩
    refine ⟨v2, rfl, ⟨?_, hW.2.trans k2⟩, k3⟩
    rw [List.append_assoc, intsL_one] at k1
    exact k1
  clear h hi
  go_enter Tryz.func53, Tryz.ntmps53
  go_wp2_with fail
  refine H1.out.mono ?_
  rintro e w1 ⟨v1, rfl, hk1, hg1⟩
  have HC := hid (HI.out _ _ hk1)
  have HG1 := hid hg1
  obtain ⟨a1, c1, rfl⟩ := hk1.shape
  clear hk1 H1 HI hg1
  generalize (l ++ W.intsL [(ns.length : Int)]).length = N1 at *
  go_wp2_with fail
  refine HC.out.mono ?_
  rintro e w2 ⟨v2, rfl, hk2, hg2⟩
  have HK := hid hk2
  have HG := hid (HG1.out.trans hg2)
  obtain ⟨a2, c2, e2⟩ := hk2.shape
  clear hk2 HC hg2 HG1
  generalize (l ++ lstB ns).length = N2 at *
  subst e2
  go_wp2_with fail
  go_ret
  exact ⟨_, rfl, HK.out, HG.out⟩
set_option maxHeartbeats 800000 in
theorem appText_any {w0 w : World} {v : Value} {l : List UInt8} (h : KB w0 w v l) (s : ByteArray) (hl : l.length ≤ 1000000) (hn : s.size ≤ 1000) :
    Calls Tryz.prog 99 #[v, .string s] w fun e w' => ∃ v', e = .returned v' ∧ KB w0 w' v' (l ++ W.textL s.data.toList) ∧ W.Grow w w' v v' := by
  obtain ⟨av, cv, rfl⟩ := h.shape
  have H1 := hid (app_new h [(s.size : Int)] (fun n hn => by simp at hn; subst hn; unfold I64; omega) (by omega) (by simp) #[.int .i64 (s.size : Int)] rfl 1 rfl)
  have hst : W.strOf s.data.toList = s := by cases s; simp [W.strOf]
  have HST := hid hst
  have HLN : Hid ((l ++ W.intsL [(s.size : Int)]).length ≤ 1000010) := by
    have := W.intsL_length [(s.size : Int)]
    simp only [List.length_cons, List.length_nil] at this
    show _ ≤ _
    simp only [List.length_append]
    omega
  have HTX : Hid (l ++ W.intsL [(s.size : Int)] ++ s.data.toList = l ++ W.textL s.data.toList) := by
    show _ = _
    rw [List.append_assoc, intsL_one]
    unfold W.textL
    simp
  have HSZ : Hid (s.data.toList.length ≤ 1000) := by show _ ≤ _; simpa using hn
  clear h hst
  go_enter Tryz.func99, Tryz.ntmps99
  go_wp2_with fail
  refine H1.out.mono ?_
  rintro e w1 ⟨v1, rfl, hk1, hg1⟩
  have HK1 := hid hk1
  have HG1 := hid hg1
  obtain ⟨a1, c1, rfl⟩ := hk1.shape
  clear hk1 H1 hg1
  have hsz := HSZ.out
  have hln := HLN.out
  generalize l ++ W.intsL [(s.size : Int)] = L at *
  go_wp2_with (at_builtin; refine W.wpList_append_str rfl _ _ rfl w0.heap.size _ L rfl HK1.out.1 s.data.toList (by rw [HST.out]; rfl) (by omega) HK1.out.2.size ?_; intro v2 w2 hrow2 hb2 hg2)
  have HK : Hid (KB w0 w2 v2 (l ++ W.textL s.data.toList)) := by
    show KB _ _ _ _
    rw [← HTX.out]
    exact ⟨hrow2, HK1.out.2.trans hb2⟩
  have HG := hid (HG1.out.trans hg2)
  obtain ⟨a2, c2, rfl⟩ := HK.out.shape
  clear hrow2 hb2 hg2 HG1
  go_wp2_with fail
  go_ret
  exact ⟨_, rfl, HK.out, HG.out⟩
end Go.Proofs.YtcffomhcmilcpaaGreat

