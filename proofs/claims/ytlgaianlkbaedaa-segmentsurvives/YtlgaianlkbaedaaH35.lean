/- Open on an empty disk; all of it read; the index. -/
import Derived.Test.YtlgaianlkbaedaaH34
import Derived.Test.YtlgaianlkbaedaaH31
import Derived.Test.YtlgaianlkbaedaaH32
namespace Go.Proofs.Ytlgaianlkbaedaa
open Go.RowKit Go.Maps Go.Sort
set_option linter.unusedSimpArgs false
set_option linter.unusedVariables false

theorem sb_new {w : World} {S : Nat → Prop} {a size : Nat} {name : ByteArray} (base : Nat) (hD : DiskA w S a size []) (hn : nameB name = true) (hbase : base ≤ 1000000000) :
    Calls Try.prog 10 #[.pointer (some ⟨a, 0, none⟩), .string name, .int .i64 (base : Int)] w fun e w' => ∃ q B, e = .returned (.tuple #[.pointer (some ⟨q, 0, none⟩), .int .i64 0, .int .i64 0]) ∧ w.heap.size ≤ q ∧ SB w' B q a base name size [] 0 ∧ (∀ k, B k → S k ∨ w.heap.size ≤ k) ∧ (∀ k, S k → B k) ∧ Keeps S w w' := by
  have hN := nil_appL name hn size
  have hnil : ∀ m', stepL m' [] = none := fun m' => stepL_none5 (by rw [batchL_nil]; decide)
  have hL : loadL (([] : List UInt8).length + 1) ⟨base, 0, 0⟩ [] [] = (⟨base, 0, 0⟩, [], []) := by
    unfold loadL
    rw [hnil]
  refine (open_yes hD name (name_le hn) base hbase hN.2 (l := []) (by rw [hN.1, one_bytes]) hL).mono fun e w' hp => ?_
  obtain ⟨q, B, g1, g2, g3, g4, g5, g6⟩ := hp
  refine ⟨q, B, g1, g2, ⟨?_, trivial, Nat.le_refl _, hn, hbase⟩, g4, g5, g6⟩
  have hc := (one_cut name [] 0 0 (Nat.le_refl _)).1
  simp only [hN.1] at g3
  rw [show (((0 : Nat) : Int)) = ((0 : Nat) : Int) from rfl, hc, (one_syn _ _ _).1] at g3
  simpa [endM, idxM, fileL] using g3
/-- With room for all, all is taken. -/
theorem takeB_all (most first : Int) : ∀ (bs : List Bat) (ne : Bool) (m : Mk), ((endM m bs).at_ : Int) - first ≤ most → takeB most first ne m bs = bs
  | [], ne, m, _ => rfl
  | b :: r, ne, m, h => by
    have hr : ((endM (m.next b.recs.length (batchL b).1.length) r).at_ : Int) - first ≤ most := h
    have ha := endM_at r (m.next b.recs.length (batchL b).1.length)
    unfold takeB
    rw [if_neg (by simp; intro _; omega), takeB_all most first r true _ hr]
/-- What is taken is a beginning. -/
theorem takeB_prefix (most first : Int) : ∀ (bs : List Bat) (ne : Bool) (m : Mk), ∃ k, k ≤ bs.length ∧ takeB most first ne m bs = bs.take k
  | [], ne, m => ⟨0, Nat.le_refl _, rfl⟩
  | b :: r, ne, m => by
    unfold takeB
    split
    · exact ⟨0, Nat.zero_le _, rfl⟩
    · obtain ⟨k, k1, k2⟩ := takeB_prefix most first r true (m.next b.recs.length (batchL b).1.length)
      exact ⟨k + 1, by simp; omega, by rw [k2]; rfl⟩
theorem takeB_first (most first : Int) (b : Bat) (r : List Bat) (m : Mk) : ∃ k, takeB most first false m (b :: r) = b :: r.take k := by
  obtain ⟨k, _, k2⟩ := takeB_prefix most first r true (m.next b.recs.length (batchL b).1.length)
  exact ⟨k, by unfold takeB; rw [if_neg (by simp), k2]⟩
/-- Index. -/
theorem SB.index {w : World} {B q a base name size bs safe} (h : SB w B q a base name size bs safe) :
    Calls Try.prog 23 #[.pointer (some ⟨q, 0, none⟩)] w fun e w' => ∃ rv, e = .returned rv ∧ w'.ownsRow w.heap.size 53 3 rv (idxM ⟨base, 0, 0⟩ [] bs).length (flatE (idxM ⟨base, 0, 0⟩ [] bs)) ∧ Below w.heap.size w w' := by
  obtain ⟨U, S, v, h1, _⟩ := h.sd
  exact sindex_any h1 h.many.1
end Go.Proofs.Ytlgaianlkbaedaa

/- small. -/
namespace Go.Proofs.Ytlgaianlkbaedaa
open Go.RowKit Go.Maps Go.Sort
set_option maxRecDepth 100000
set_option linter.unusedSimpArgs false
set_option linter.unusedVariables false

def smallR : Rec := ⟨[], [118], 0⟩
def smallC : List Value := [.string ⟨#[]⟩, .string ⟨#[118]⟩, .int .i64 0]
theorem smallC_eq : smallC = recCells smallR := rfl
theorem flatR_app : ∀ l m : List Rec, flatR (l ++ m) = flatR l ++ flatR m
  | [], m => rfl
  | x :: r, m => by simp [flatR, flatR_app r m]
theorem own_shape {w : World} {A T z n : Nat} {v : Value} {xs : List Value} (h : w.ownsRow A T z v n xs) : ∃ o n c, v = .slice o n c := by
  rcases h.2 with ⟨e, _⟩ | ⟨g, cap', cur, e, _⟩
  · exact ⟨_, _, _, e⟩
  · exact ⟨_, _, _, e⟩
/-- Where small stands. -/
structure SmAt (w wr : World) (base : Int) (k : Nat) (rv : Value) : Prop where
  out : wr.heap[w.heap.size]? = some (.cells #[.int .i64 0, .int .i64 0, .int .i64 0, .int .i64 0, .int .i64 0, .slice none 0 0] 34)
  box : wr.heap[w.heap.size + 1]? = some (.cells #[.int .i64 base, .int .i64 1, .int .i64 0, .int .i64 0, .int .i64 0, rv] 34)
  row : wr.ownsRow (w.heap.size + 2) 68 3 rv k (flatR (List.replicate k smallR))
  below : Below w.heap.size w wr
theorem SmAt.start (w : World) (base : Int) : SmAt w ((w.alloc (.cells #[.int .i64 0, .int .i64 0, .int .i64 0, .int .i64 0, .int .i64 0, .slice none 0 0] 34)).alloc (.cells #[.int .i64 base, .int .i64 1, .int .i64 0, .int .i64 0, .int .i64 0, .slice none 0 0] 34)) base 0 (.slice none 0 0) := by
  have z1 : (w.alloc (.cells #[.int .i64 0, .int .i64 0, .int .i64 0, .int .i64 0, .int .i64 0, .slice none 0 0] 34)).heap.size = w.heap.size + 1 := by simp
  refine ⟨?_, ?_, ⟨rfl, .inl ⟨rfl, rfl⟩⟩, ((Below.refl _ _).alloc (Nat.le_refl _) _).alloc (by omega) _⟩
  · rw [Below.heap_alloc _ _ _ (by omega)]
    exact heap_alloc_new _ _
  · rw [← z1]
    exact heap_alloc_new _ _
theorem SmAt.next {w wr w2 : World} {base : Int} {k : Nat} {rv v' : Value} (h : SmAt w wr base k rv) {O : Obj} (hown : w2.ownsRow (w.heap.size + 2) 68 3 v' (k + 1) (flatR (List.replicate k smallR) ++ smallC)) (hg : (wr.alloc O).grownBy w2 rv.ownBlock) : (w2.cell? ⟨w.heap.size + 1, 5, none⟩ = some rv ∧ w2.frozen? ⟨w.heap.size + 1, 5, none⟩ = false) ∧ SmAt w (w2.setCell ⟨w.heap.size + 1, 5, none⟩ v') base (k + 1) v' := by
  have hcl := (Array.getElem?_eq_some_iff.1 h.box).1
  have hgs := hg.size
  have hz : (wr.alloc O).heap.size = wr.heap.size + 1 := by simp
  have hne : ∀ q, q < w.heap.size + 2 → some q ≠ rv.ownBlock := fun q hq e => by have := (World.ownsRow.lt h.row q e.symm).1; omega
  have key : ∀ q, q < w.heap.size + 2 → w2.heap[q]? = wr.heap[q]? := fun q hq => by
    rw [hg.block q (by omega) (hne q hq), Below.heap_alloc _ _ _ (by omega)]
  have hbx := (key (w.heap.size + 1) (by omega)).trans h.box
  refine ⟨⟨cell_at hbx rfl, frozen_blk hbx 5⟩, ?_, set_box hbx, ?_, ?_⟩
  · rw [Below.heap_setCell w2 ⟨w.heap.size + 1, 5, none⟩ v' _ (by show _ ≠ w.heap.size + 1; omega), key _ (by omega)]
    exact h.out
  · rw [List.replicate_succ', flatR_app]
    refine ownsRow_kept (w := w2) (by simpa [flatR, smallC_eq] using hown) (fun q hq => ?_)
    have := (World.ownsRow.lt hown q hq).1
    exact Below.heap_setCell w2 ⟨w.heap.size + 1, 5, none⟩ v' q (by show _ ≠ w.heap.size + 1; omega)
  · have hb := h.below
    have hbs := hb.size
    refine ⟨hg.os.trans hb.os, hg.tape.trans hb.tape, hg.output.trans hb.output, by rw [set_size]; omega, fun q hq => ?_⟩
    rw [Below.heap_setCell w2 ⟨w.heap.size + 1, 5, none⟩ v' q (by show _ ≠ w.heap.size + 1; omega), key q (by omega)]
    exact hb.block q hq
set_option maxHeartbeats 3200000 in
theorem small_any (w : World) (base : Int) (n : Nat) (hn : n ≤ 64) :
    Calls Try.prog 11 #[.int .i64 base, .int .i64 (n : Int)] w fun e w' => ∃ rv, e = .returned (.agg #[.int .i64 base, .int .i64 1, .int .i64 0, .int .i64 0, .int .i64 0, rv]) ∧ Recs w' rv (List.replicate n smallR) ∧ (∀ k, rv.ownBlock = some k → w.heap.size ≤ k) ∧ Below w.heap.size w w' := by
  obtain ⟨i0, hi0, hz0, hz1, hz2⟩ := info51
  have H0 := hid (SmAt.start w base)
  go_enter Try.func11, Try.ntmps11
  go_wp2_with fail
  go_loopg [6] n (fun kx s6 wr => ∃ (k : Nat) (rv : Value), k ≤ n ∧ n - k ≤ kx ∧ s6 = .int .i64 (k : Int) ∧ Hid (SmAt w wr base k rv))
  case atStart => exact ⟨0, _, by omega, by omega, rfl, H0⟩
  case round =>
    obtain ⟨k, rv, hk, hkx, rfl, HD⟩ := hrel
    clear H0
    have hcl := (Array.getElem?_eq_some_iff.1 HD.out.box).1
    have c5 := cell_at HD.out.box (j := 5) rfl
    obtain ⟨ro, rn, rcap, rfl⟩ : ∃ o n c, rv = .slice o n c := by
      rcases HD.out.row.2 with ⟨e, _⟩ | ⟨g, cap', cur, e, _⟩
      · exact ⟨_, _, _, e⟩
      · exact ⟨_, _, _, e⟩
    by_cases hlt : k < n
    · have hlt' : (k : Int) < (n : Int) := by omega
      have HROW : Hid (∀ O, (wr.alloc O).ownsRow (w.heap.size + 2) 68 3 (.slice ro rn rcap) k (flatR (List.replicate k smallR))) := fun O => ownsRow_kept HD.out.row (fun q hq => Below.heap_alloc _ _ _ (World.ownsRow.lt HD.out.row q hq).2)
      have HNW : Hid (∀ j u, smallC[j]? = some u → (wr.alloc (.cells #[.string ⟨#[]⟩, .string ⟨#[118]⟩, .int .i64 0] 68)).cell? ((⟨wr.heap.size, 0, none⟩ : Addr).add j) = some u) := fun j u hu => by
        have hadd : (⟨wr.heap.size, 0, none⟩ : Addr).add j = ⟨wr.heap.size, j, none⟩ := by unfold Addr.add; split <;> simp_all
        rw [hadd]
        exact cell_at (heap_alloc_new wr _) (by simpa [smallC] using hu)
      have HON : Hid (∀ u ∈ smallC, u.oneCell' = true) := by intro u hu; simp [smallC] at hu; rcases hu with rfl | rfl | rfl <;> rfl
      have HNX : Hid (∀ O v' w2, w2.ownsRow (w.heap.size + 2) 68 3 v' (k + 1) (flatR (List.replicate k smallR) ++ smallC) → (wr.alloc O).grownBy w2 (Value.slice ro rn rcap).ownBlock → (w2.cell? ⟨w.heap.size + 1, 5, none⟩ = some (.slice ro rn rcap) ∧ w2.frozen? ⟨w.heap.size + 1, 5, none⟩ = false) ∧ SmAt w (w2.setCell ⟨w.heap.size + 1, 5, none⟩ v') base (k + 1) v') := fun O v' w2 g1 g2 => HD.out.next g1 g2
      generalize flatR (List.replicate k smallR) = F at *
      go_wp2_with (at_builtin; refine wpList_append_own_at _ rfl _ _ 32 rfl (w.heap.size + 2) 68 i0 _ 3 40 Try.underlying32 hi0 hz0 hz1 hz2 rfl (by decide) _ k F rfl (HROW.out _) ⟨wr.heap.size, 0, none⟩ 1 1 smallC rfl rfl HNW.out HON.out (by unfold maxLen; omega) (by omega) (by simp; omega) ?_; intro v' w2 hown2 hg2 _ hat; obtain ⟨vo, vn, vc, rfl⟩ := own_shape hown2; obtain ⟨⟨y1, y2⟩, y3⟩ := HNX.out _ _ w2 hown2 hg2; have HN := hid y3; clear y3 hown2 hg2 hat)
      go_roundg (n - (k + 1))
      case measure => omega
      case rel => exact ⟨k + 1, _, by omega, Nat.le_refl _, by go_num, HN⟩
    · have hlt' : ¬ (k : Int) < (n : Int) := by omega
      have e : k = n := by omega
      subst e
      have HX : Hid (Boxed w wr (.cells #[.int .i64 0, .int .i64 0, .int .i64 0, .int .i64 0, .int .i64 0, .slice none 0 0] 34)) := ⟨HD.out.below, HD.out.out⟩
      have HRC : Hid (Recs wr (.slice ro rn rcap) (List.replicate k smallR)) := recs_of_row (B := w.heap.size + 2) (by rw [List.length_replicate]; exact HD.out.row) (fun r hr => by rw [(List.mem_replicate.1 hr).2]; unfold Rec.ok I64 smallR maxLen; simp)
      have HOW : Hid (∀ q, (Value.slice ro rn rcap).ownBlock = some q → w.heap.size + 2 ≤ q) := fun q hq => (World.ownsRow.lt HD.out.row q hq).1
      have b0 := cell_at HD.out.box (j := 0) rfl
      have b1 := cell_at HD.out.box (j := 1) rfl
      have b2 := cell_at HD.out.box (j := 2) rfl
      have b3 := cell_at HD.out.box (j := 3) rfl
      have b4 := cell_at HD.out.box (j := 4) rfl
      obtain ⟨o0, o1, o2, o3, o4, o5⟩ := six HX.out
      obtain ⟨f0, f1, f2, f3, f4, f5⟩ := six_frozen HX.out
      go_wp2_with fail
      have HZ := hid (HX.out.six (.int .i64 base) (.int .i64 1) (.int .i64 0) (.int .i64 0) (.int .i64 0) (.slice ro rn rcap))
      have HR2 := hid (HRC.out.off (fun q hq => six_keep2 wr w.heap.size q (.int .i64 base) (.int .i64 1) (.int .i64 0) (.int .i64 0) (.int .i64 0) (.slice ro rn rcap) (by have := HOW.out q hq; omega)) (by rw [six_size]; exact Nat.le_refl _))
      generalize (((((wr.setCell ⟨w.heap.size, 0, none⟩ (.int .i64 base)).setCell ⟨w.heap.size, 1, none⟩ (.int .i64 1)).setCell ⟨w.heap.size, 2, none⟩ (.int .i64 0)).setCell ⟨w.heap.size, 3, none⟩ (.int .i64 0)).setCell ⟨w.heap.size, 4, none⟩ (.int .i64 0)).setCell ⟨w.heap.size, 5, none⟩ (.slice ro rn rcap) = W9 at *
      obtain ⟨p0, p1, p2, p3, p4, p5⟩ := six HZ.out
      exact bodyPost_ret (v := .agg #[.int .i64 base, .int .i64 1, .int .i64 0, .int .i64 0, .int .i64 0, .slice ro rn rcap]) (by simp [results, Try.results11, go_sem, p0, p1, p2, p3, p4, p5]) rfl ⟨_, rfl, HR2.out, fun q hq => (by have := HOW.out q hq; omega), HZ.out.below⟩
end Go.Proofs.Ytlgaianlkbaedaa

/- sameIndex. -/
namespace Go.Proofs.Ytlgaianlkbaedaa
open Go.RowKit Go.Maps Go.Sort
set_option maxRecDepth 100000
set_option linter.unusedSimpArgs false
set_option linter.unusedVariables false

theorem flatE_at : ∀ (l : List Mk) (i : Nat) (m : Mk), l[i]? = some m → (flatE l)[i * 3]? = some (.int .i64 (m.at_ : Int)) ∧ (flatE l)[i * 3 + 1]? = some (.int .i64 (m.base : Int)) ∧ (flatE l)[i * 3 + 2]? = some (.string ⟨#[]⟩)
  | [], i, m, h => by simp at h
  | y :: r, 0, m, h => by simp at h; subst h; simp [flatE, ecells]
  | y :: r, i + 1, m, h => by
    have ih := flatE_at r i m (by simpa using h)
    have e : ∀ j, (flatE (y :: r))[(i + 1) * 3 + j]? = (flatE r)[i * 3 + j]? := fun j => by
      have e1 : (i + 1) * 3 + j = 3 + (i * 3 + j) := by omega
      rw [e1]
      show ([_, _, _] ++ flatE r)[3 + (i * 3 + j)]? = _
      rw [List.getElem?_append_right (by simp)]
      congr 1
      simp
    refine ⟨?_, ?_, ?_⟩
    · have := e 0; simp only [Nat.add_zero] at this; rw [this]; exact ih.1
    · rw [e 1]; exact ih.2.1
    · rw [e 2]; exact ih.2.2
/-- A row of entries. -/
theorem ent_at {w : World} {A g cap : Nat} {xs : List Mk} (h : w.ownsRow A 53 3 (.slice (some ⟨g, 0, none⟩) xs.length cap) xs.length (flatE xs)) (i : Nat) (x : Mk) (hx : xs[i]? = some x) : w.cell? ⟨g, i * 3, none⟩ = some (.int .i64 (x.at_ : Int)) ∧ w.cell? ⟨g, i * 3 + 1, none⟩ = some (.int .i64 (x.base : Int)) ∧ w.cell? ⟨g, i * 3 + 2, none⟩ = some (.string ⟨#[]⟩) := by
  have hc := fun j u hu => h.cells (g := g) rfl j u hu
  have hadd : ∀ j, (⟨g, 0, none⟩ : Addr).add j = ⟨g, j, none⟩ := fun j => by unfold Addr.add; split <;> simp_all
  obtain ⟨h0, h1, h2⟩ := flatE_at xs i x hx
  refine ⟨?_, ?_, ?_⟩
  · have := hc _ _ h0; rw [hadd] at this; exact this
  · have := hc _ _ h1; rw [hadd] at this; exact this
  · have := hc _ _ h2; rw [hadd] at this; exact this
theorem ent_shape {w : World} {A : Nat} {v : Value} {n : Nat} {xs : List Value} (h : w.ownsRow A 53 3 v n xs) : ∃ oa cap, v = .slice oa n cap ∧ (0 < n → ∃ g, oa = some ⟨g, 0, none⟩) := by
  obtain ⟨_, ⟨e, h0⟩ | ⟨g, cap, cur, e, _⟩⟩ := h
  · exact ⟨none, 0, by rw [e, h0], fun h => by omega⟩
  · exact ⟨some ⟨g, 0, none⟩, cap, e, fun _ => ⟨g, rfl⟩⟩
set_option maxHeartbeats 3200000 in
theorem sameIndex_yes {w : World} {A1 A2 : Nat} {v1 v2 : Value} {xs : List Mk} (h1 : w.ownsRow A1 53 3 v1 xs.length (flatE xs)) (h2 : w.ownsRow A2 53 3 v2 xs.length (flatE xs)) (hlen : xs.length ≤ 5000) :
    Calls Try.prog 24 #[v1, v2] w fun e w' => e = .returned (.bool true) ∧ Below w.heap.size w w' := by
  obtain ⟨o1, c1, rfl, g1⟩ := ent_shape h1
  obtain ⟨o2, c2, rfl, g2⟩ := ent_shape h2
  have H1 := hid h1
  have H2 := hid h2
  clear h1 h2
  go_enter Try.func24, Try.ntmps24
  go_wp2_with fail
  go_loopg [5] xs.length (fun kx s5 wr => ∃ k : Nat, k ≤ xs.length ∧ xs.length - k ≤ kx ∧ s5 = .int .i64 (k : Int) ∧ Hid (Below w.heap.size w wr))
  case atStart => exact ⟨0, by omega, by omega, rfl, Below.refl _ _⟩
  case round =>
    obtain ⟨k, hk, hkx, rfl, HB⟩ := hrel
    by_cases hlt : k < xs.length
    · have hlt' : (k : Int) < (xs.length : Int) := by omega
      obtain ⟨ga, rfl⟩ := g1 (by omega)
      obtain ⟨gb, rfl⟩ := g2 (by omega)
      have hx : xs[k]? = some xs[k] := List.getElem?_eq_getElem hlt
      obtain ⟨a0, a1, a2⟩ := ent_at (ownsRow_kept (w' := wr) H1.out (fun q hq => HB.out.block q (World.ownsRow.lt H1.out q hq).2)) k _ hx
      obtain ⟨b0, b1, b2⟩ := ent_at (ownsRow_kept (w' := wr) H2.out (fun q hq => HB.out.block q (World.ownsRow.lt H2.out q hq).2)) k _ hx
      generalize xs[k] = x at *
      clear hx
      go_wp2_with fail
      go_quiet (fail)
      go_wp2_with fail
      go_roundg (xs.length - (k + 1))
      case measure => omega
      case rel => exact ⟨k + 1, by omega, Nat.le_refl _, by go_num, by first | exact HB | exact below_drewN HB.out _⟩
    · have hlt' : ¬ (k : Int) < (xs.length : Int) := by omega
      go_wp2_with fail
      go_ret
      exact ⟨rfl, HB.out⟩
end Go.Proofs.Ytlgaianlkbaedaa

