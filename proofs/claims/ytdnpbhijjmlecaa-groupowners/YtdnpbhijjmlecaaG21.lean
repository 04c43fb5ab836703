/- No kind; Epoch. -/
import Derived.Test.YtdnpbhijjmlecaaG20
import Derived.Test.YtdnpbhijjmlecaaG9
import Derived.Deep.CutRange
import Derived.Deep.CutBlock
namespace Go.Proofs.Ytdnpbhijjmlecaa
open Go.RowKit Go.Maps
set_option maxRecDepth 100000
set_option linter.unusedSimpArgs false
set_option linter.unusedVariables false

/-- What a call leaves of all groups, and what it tells. -/
def OutA (Z : Nat → Prop) (w w' : World) (q : Nat) (S : Gs) (t : Td) (e : Ending) : Prop := ∃ Z', AllM w' Z' q S ∧ (∀ k, Z' k → Z k ∨ w.heap.size ≤ k) ∧ Keeps Z w w' ∧ ToldP (fun b => w.heap.size ≤ b ∧ ¬ Z' b) w' t e
theorem AllM.q {w : World} {Z : Nat → Prop} {q : Nat} {S : Gs} (h : AllM w Z q S) : Z q := by obtain ⟨b, es, h1, h2, _⟩ := h; exact h2
theorem AllM.z {w : World} {Z : Nat → Prop} {q : Nat} {S : Gs} (h : AllM w Z q S) : ∀ k, Z k → k < w.heap.size := by obtain ⟨b, es, h1, h2, _, _, h5⟩ := h; exact h5
set_option maxHeartbeats 1600000 in
theorem refuse_any {w : World} {Z : Nat → Prop} {q : Nat} {S : Gs} (h : AllM w Z q S) (m : Rc) (la : Option Addr) (ln lc : Nat) :
    Calls Try.prog 41 #[.pointer (some ⟨q, 0, none⟩), recV m (.slice la ln lc)] w fun e w' => OutA Z w w' q S (errT 1) e := by
  have hT := tb_new Z w (recA m (.slice la ln lc)) zTd
  have HT := hid hT
  have HH := hid h
  have hbW : Below w.heap.size w ((w.alloc (.cells (recA m (.slice la ln lc)) 32)).alloc (.cells zTd 36)) := (tb_new (fun _ => False) w (recA m (.slice la ln lc)) zTd).k.base
  have HBW := hid hbW
  unfold recV recA zTd at *
  clear h hT hbW
  go_enter Try.func41, Try.ntmps41
  go_wp2_with fail
  have hb2 : Below w.heap.size w ((w.alloc (.cells #[.int .i64 m.kind, .int .i64 m.a, .int .i64 m.b, .int .i64 m.c, .int .i64 m.d, .string m.name, .string m.text, .slice la ln lc] 32)).alloc (.cells #[.int .i64 1, .int .i64 0, .int .i64 0, .int .i64 0, .slice none 0 0] 36)) := ((Below.refl _ _).alloc (Nat.le_refl _) _).alloc (by simp) _
  exact bodyPost_ret (v := .agg #[.int .i64 1, .int .i64 0, .int .i64 0, .int .i64 0, .slice none 0 0]) (by simp [results, Try.results41, go_sem]) rfl ⟨Z, HH.out.under hb2, fun k hk => .inl hk, Keeps.of_below hb2, told_nil⟩
theorem AllC.epoch {w : World} {q b : Nat} {es : List En} {S : Gs} (h : AllC w q b es S) (n : Int) : AllC (w.setCell ⟨q, 1, none⟩ (.int .i64 n)) q b es { S with epoch := n } := by
  have hk : ∀ k, k ≠ q → (w.setCell ⟨q, 1, none⟩ (.int .i64 n)).heap[k]? = w.heap[k]? := fun k hk => Below.heap_setCell _ _ _ _ hk
  refine ⟨by have := set_box (j := 1) (v := .int .i64 n) h.cells; exact this, ?_, h.abs, fun e he => ⟨(h.each e he).1.kept (fun k hk2 => hk k ((h.each e he).2 k hk2).1) (by simp), (h.each e he).2⟩, h.apart⟩
  obtain ⟨xs, clock, hm, r⟩ := h.bmap
  exact ⟨xs, clock, (hk b h.ne_qb.symm).trans hm, r⟩
set_option maxHeartbeats 1600000 in
theorem begin_any {w : World} {Z : Nat → Prop} {q : Nat} {S : Gs} (h : AllM w Z q S) (m : Rc) (hrc : RcOk m) (hep : I64 S.epoch) (la : Option Addr) (ln lc : Nat) :
    Calls Try.prog 40 #[.pointer (some ⟨q, 0, none⟩), recV m (.slice la ln lc)] w fun e w' => OutA Z w w' q (epochI S m).1 (epochI S m).2 e := by
  have hT := tb_new Z w (recA m (.slice la ln lc)) zTd
  have HT := hid hT
  have HH := hid h
  have hbW : Below w.heap.size w ((w.alloc (.cells (recA m (.slice la ln lc)) 32)).alloc (.cells zTd 36)) := (tb_new (fun _ => False) w (recA m (.slice la ln lc)) zTd).k.base
  have HBW := hid hbW
  have hz := h.z
  have hZq := h.q
  have hq := hz q hZq
  obtain ⟨b, es, hA, h2, h3, h4, h5⟩ := h
  have HA := hid (hA.under hbW)
  have HZ := hid h5
  have HZB := hid h3
  have HZE := hid h4
  have a1 := cell_blk hT.x 1 _ rfl
  have c1 := HA.out.c1
  have z0 := cell_blk hT.z 0 _ rfl
  have z1 := cell_blk hT.z 1 _ rfl
  have z2 := cell_blk hT.z 2 _ rfl
  have z3 := cell_blk hT.z 3 _ rfl
  have z4 := cell_blk hT.z 4 _ rfl
  have fz := frz_blk hT.z
  have hn1 : ¬ q = w.heap.size + 1 := by omega
  have hn2 : ¬ w.heap.size + 1 = q := by omega
  have hn3 : ¬ q = w.heap.size := by omega
  have hn4 : ¬ w.heap.size = q := by omega
  obtain ⟨hra1, hra2⟩ := hrc.2.1
  obtain ⟨he1, he2⟩ := hep
  have HEP : Hid (epochI S m = if m.a < S.epoch then (S, errT 13) else ({ S with epoch := m.a }, ⟨0, 0, m.a, 0, []⟩)) := rfl
  unfold recV recA zTd at *
  rw [HEP.out]
  clear hT hbW hA h3 h4 h5 hz hrc HEP
  by_cases hlt : m.a < S.epoch
  · rw [if_pos hlt]
    have hlt2 := hlt
    generalize hS : S.epoch = ep at *
    clear hS
    go_enter Try.func40, Try.ntmps40
    go_wp2_with fail
    generalize (w.alloc (.cells #[.int .i64 m.kind, .int .i64 m.a, .int .i64 m.b, .int .i64 m.c, .int .i64 m.d, .string m.name, .string m.text, .slice la ln lc] 32)).alloc (.cells #[.int .i64 0, .int .i64 0, .int .i64 0, .int .i64 0, .slice none 0 0] 36) = W at *
    go_region_held3 (fun V => V.cell? ⟨q, 1, none⟩ = some (.int .i64 ep) ∧ V.cell? ⟨w.heap.size, 1, none⟩ = some (.int .i64 m.a)) (go_keep) (fail)
    go_wp2_with fail
    clear z0 z1 z2 z3 z4 fz
    have HT5 := hid ((HT.out).five rfl (.int .i64 13) (.int .i64 0) (.int .i64 0) (.int .i64 0) (.slice none 0 0))
    have HK5 := hid (five_keeps (W) (w.heap.size + 1) (.int .i64 13) (.int .i64 0) (.int .i64 0) (.int .i64 0) (.slice none 0 0))
    unfold five at HT5 HK5
    generalize ((((W.setCell ⟨w.heap.size + 1, 0, none⟩ (.int .i64 13)).setCell ⟨w.heap.size + 1, 1, none⟩ (.int .i64 0)).setCell ⟨w.heap.size + 1, 2, none⟩ (.int .i64 0)).setCell ⟨w.heap.size + 1, 3, none⟩ (.int .i64 0)).setCell ⟨w.heap.size + 1, 4, none⟩ (.slice none 0 0) = N5 at *
    have r0 := cell_blk HT5.out.z 0 _ rfl
    have r1 := cell_blk HT5.out.z 1 _ rfl
    have r2 := cell_blk HT5.out.z 2 _ rfl
    have r3 := cell_blk HT5.out.z 3 _ rfl
    have r4 := cell_blk HT5.out.z 4 _ rfl
    exact bodyPost_ret (v := .agg #[.int .i64 13, .int .i64 0, .int .i64 0, .int .i64 0, .slice none 0 0]) (by simp [results, Try.results40, go_sem, r0, r1, r2, r3, r4]) rfl (⟨Z, ((HH.out.under HBW.out).kept (fun k hk => HK5.out.block k (by have := HZ.out k hk; have := HT.out.s; omega) (fun e => by have := HZ.out k hk; omega)) HK5.out.size).under (Below.refl _ _).drew, fun k hk => .inl hk, HT5.out.k.drew, told_nil⟩)
  · rw [if_neg hlt]
    have hep2 := HA.out.epoch m.a
    have HEP2 := hid hep2
    have fq := HA.out.fz
    have HTQ := hid (HT.out.next (Keeps.set (S := fun k => k = q) ((w.alloc (.cells #[.int .i64 m.kind, .int .i64 m.a, .int .i64 m.b, .int .i64 m.c, .int .i64 m.d, .string m.name, .string m.text, .slice la ln lc] 32)).alloc (.cells #[.int .i64 0, .int .i64 0, .int .i64 0, .int .i64 0, .slice none 0 0] 36)) (a := ⟨q, 1, none⟩) rfl (.int .i64 m.a)) (fun k hk => .inl (by cases hk; exact hZq)) (by omega) (by omega))
    generalize hS : S.epoch = ep at *
    clear hS hep2
    go_enter Try.func40, Try.ntmps40
    go_wp2_with fail
    generalize (w.alloc (.cells #[.int .i64 m.kind, .int .i64 m.a, .int .i64 m.b, .int .i64 m.c, .int .i64 m.d, .string m.name, .string m.text, .slice la ln lc] 32)).alloc (.cells #[.int .i64 0, .int .i64 0, .int .i64 0, .int .i64 0, .slice none 0 0] 36) = W at *
    go_region_held3 (fun V => V.cell? ⟨q, 1, none⟩ = some (.int .i64 ep) ∧ V.cell? ⟨w.heap.size, 1, none⟩ = some (.int .i64 m.a)) (go_keep) (fail)
    go_upto_region 4 with fail
    clear a1 c1 z0 z1 z2 z3 z4 fz fq
    generalize W.setCell ⟨q, 1, none⟩ (.int .i64 m.a) = W3 at *
    have a1 := cell_blk HTQ.out.x 1 _ rfl
    have z0 := cell_blk HTQ.out.z 0 _ rfl
    have z1 := cell_blk HTQ.out.z 1 _ rfl
    have z2 := cell_blk HTQ.out.z 2 _ rfl
    have z3 := cell_blk HTQ.out.z 3 _ rfl
    have z4 := cell_blk HTQ.out.z 4 _ rfl
    have fz := frz_blk HTQ.out.z
    go_wp2_with fail
    clear a1 z0 z1 z2 z3 z4 fz
    have HA3 : Hid (AllM W3 Z q { S with epoch := m.a }) := ⟨b, es, HEP2.out, hZq, HZB.out, HZE.out, fun k hk => Nat.lt_of_lt_of_le (HZ.out k hk) HTQ.out.k.size⟩
    have HT5 := hid ((HTQ.out).five rfl (.int .i64 0) (.int .i64 0) (.int .i64 m.a) (.int .i64 0) (.slice none 0 0))
    have HK5 := hid (five_keeps (W3) (w.heap.size + 1) (.int .i64 0) (.int .i64 0) (.int .i64 m.a) (.int .i64 0) (.slice none 0 0))
    unfold five at HT5 HK5
    generalize ((((W3.setCell ⟨w.heap.size + 1, 0, none⟩ (.int .i64 0)).setCell ⟨w.heap.size + 1, 1, none⟩ (.int .i64 0)).setCell ⟨w.heap.size + 1, 2, none⟩ (.int .i64 m.a)).setCell ⟨w.heap.size + 1, 3, none⟩ (.int .i64 0)).setCell ⟨w.heap.size + 1, 4, none⟩ (.slice none 0 0) = N5 at *
    have r0 := cell_blk HT5.out.z 0 _ rfl
    have r1 := cell_blk HT5.out.z 1 _ rfl
    have r2 := cell_blk HT5.out.z 2 _ rfl
    have r3 := cell_blk HT5.out.z 3 _ rfl
    have r4 := cell_blk HT5.out.z 4 _ rfl
    exact bodyPost_ret (v := .agg #[.int .i64 0, .int .i64 0, .int .i64 m.a, .int .i64 0, .slice none 0 0]) (by simp [results, Try.results40, go_sem, r0, r1, r2, r3, r4]) rfl (⟨Z, (HA3.out.kept (fun k hk => HK5.out.block k (by have := HZ.out k hk; have := HTQ.out.s; omega) (fun e => by have := HZ.out k hk; omega)) HK5.out.size).under (Below.refl _ _).drew, fun k hk => .inl hk, HT5.out.k.drew, told_nil⟩)
end Go.Proofs.Ytdnpbhijjmlecaa
