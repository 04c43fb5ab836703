/- What is told; Read. -/
import Derived.Test.YtdnpbhijjmlecaaG12
import Derived.Test.YtdnpbhijjmlecaaG9
namespace Go.Proofs.Ytdnpbhijjmlecaa
open Go.RowKit Go.Maps
set_option maxRecDepth 100000
set_option linter.unusedSimpArgs false
set_option linter.unusedVariables false

/-- What is told, on blocks of X. -/
def ToldP (X : Nat → Prop) (w' : World) (t : Td) (e : Ending) : Prop := ∃ a c, e = .returned (.agg #[.int .i64 t.err, .int .i64 t.mem, .int .i64 t.gen, .int .i64 t.off, .slice a t.parts.length c]) ∧ IL w' (.slice a t.parts.length c) t.parts ∧ In X (.slice a t.parts.length c) t.parts
theorem told_nil {X : Nat → Prop} {w' : World} {e m g o : Int} : ToldP X w' ⟨e, m, g, o, []⟩ (.returned (.agg #[.int .i64 e, .int .i64 m, .int .i64 g, .int .i64 o, .slice none 0 0])) := ⟨none, 0, rfl, IL.nil _, In.nil _ _⟩
theorem ToldP.under {X : Nat → Prop} {w w' : World} {t : Td} {e : Ending} (h : ToldP X w t e) (hb : Below w.heap.size w w') : ToldP X w' t e := by
  obtain ⟨a, c, h1, h2, h3⟩ := h
  exact ⟨a, c, h1, h2.under hb, h3⟩
set_option maxHeartbeats 1600000 in
theorem read_any {w : World} {q : Nat} {vm vp vo : Value} {x : Gr} (h : GrR w q vm vp vo x) (m : Rc) (hc : I64 m.c) (la : Option Addr) (ln lc : Nat) :
    Calls Try.prog 63 #[.pointer (some ⟨q, 0, none⟩), recV m (.slice la ln lc)] w fun e w' => ToldP (fun b => w.heap.size ≤ b) w' (readI x m).2 e ∧ Below w.heap.size w w' := by
  have hT := tb_new (fun _ => False) w (recA m (.slice la ln lc)) zTd
  have HT := hid hT
  have HR := hid (h.under hT.k.base)
  have HO : Hid (∀ V, Below ((w.alloc (.cells (recA m (.slice la ln lc)) 32)).alloc (.cells zTd 36)).heap.size ((w.alloc (.cells (recA m (.slice la ln lc)) 32)).alloc (.cells zTd 36)) V → Calls Try.prog 36 #[.pointer (some ⟨q, 0, none⟩), .int .i64 m.c] V fun e w' => e = .returned (.int .i64 (offI x m.c)) ∧ V = w') := fun V hV => offset_any (HR.out.under hV) m.c hc
  have c0 := HR.out.c0
  have a3 := cell_blk hT.x 3 _ rfl
  have z0 := cell_blk hT.z 0 _ rfl
  have z1 := cell_blk hT.z 1 _ rfl
  have z2 := cell_blk hT.z 2 _ rfl
  have z3 := cell_blk hT.z 3 _ rfl
  have z4 := cell_blk hT.z 4 _ rfl
  have fz := frz_blk hT.z
  have hq := h.lt
  have hn1 : ¬ q = w.heap.size + 1 := by omega
  have hn2 : ¬ w.heap.size + 1 = q := by omega
  have HTOLD : Hid ((readI x m).2 = ⟨0, 0, x.gen, offI x m.c, []⟩) := rfl
  generalize (readI x m).2 = T at *
  unfold recV recA zTd at *
  clear h hT
  go_enter Try.func63, Try.ntmps63
  go_wp2_with fail
  generalize (w.alloc (.cells #[.int .i64 m.kind, .int .i64 m.a, .int .i64 m.b, .int .i64 m.c, .int .i64 m.d, .string m.name, .string m.text, .slice la ln lc] 32)).alloc (.cells #[.int .i64 0, .int .i64 0, .int .i64 0, .int .i64 0, .slice none 0 0] 36) = W at *
  generalize offI x m.c = o at *
  generalize x.gen = g at *
  go_region_held3 (fun V => V.cell? ⟨q, 0, none⟩ = some (.int .i64 g) ∧ V.cell? ⟨w.heap.size, 3, none⟩ = some (.int .i64 m.c)) (go_keep)
    (first | (go_at_call 36; refine (HO.out _ (by first | exact Below.refl _ _ | exact (Below.refl _ _).drew)).mono ?_; rintro e w1 ⟨rfl, rfl⟩) | fail)
  go_wp2_with fail
  have HT5 := hid ((HT.out).five rfl (.int .i64 0) (.int .i64 0) (.int .i64 g) (.int .i64 o) (.slice none 0 0))
  have HK5 := hid (five_keeps (W) (w.heap.size + 1) (.int .i64 0) (.int .i64 0) (.int .i64 g) (.int .i64 o) (.slice none 0 0))
  unfold five at HT5 HK5
  generalize ((((W.setCell ⟨w.heap.size + 1, 0, none⟩ (.int .i64 0)).setCell ⟨w.heap.size + 1, 1, none⟩ (.int .i64 0)).setCell ⟨w.heap.size + 1, 2, none⟩ (.int .i64 g)).setCell ⟨w.heap.size + 1, 3, none⟩ (.int .i64 o)).setCell ⟨w.heap.size + 1, 4, none⟩ (.slice none 0 0) = N5 at *
  have r0 := cell_blk HT5.out.z 0 _ rfl
  have r1 := cell_blk HT5.out.z 1 _ rfl
  have r2 := cell_blk HT5.out.z 2 _ rfl
  have r3 := cell_blk HT5.out.z 3 _ rfl
  have r4 := cell_blk HT5.out.z 4 _ rfl
  exact bodyPost_ret (v := .agg #[.int .i64 0, .int .i64 0, .int .i64 g, .int .i64 o, .slice none 0 0]) (by simp [results, Try.results63, go_sem, r0, r1, r2, r3, r4]) rfl (by rw [HTOLD.out]; exact ⟨told_nil, HT5.out.k.base.drew⟩)
end Go.Proofs.Ytdnpbhijjmlecaa
