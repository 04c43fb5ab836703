/- The document's Apply: nobody, a read, a stranger, another generation. -/
import Derived.Test.YtdnpbhijjmlecaaZ10
namespace Go.Proofs.Ytdnpbhijjmlecaa
open Go.RowKit Go.Maps
set_option maxRecDepth 100000
set_option linter.unusedSimpArgs false
set_option linter.unusedVariables false

theorem findX_mem {es : List Ent} {n : ByteArray} {x : Ent} (h : findX es n = some x) : x ∈ es := List.mem_of_find?_eq_some h
set_option maxHeartbeats 3200000 in
theorem rnone_any {w : World} {r : Nat} {vl : Value} {es : List Ent} {ep : Int} (h : DC w r vl es ep) (hf : es.length ≤ 1000) (m : Rc) (la : Option Addr) (lc : Nat) (hx : findX es m.name = none) (h1 : ¬ m.kind = 1) (h5 : ¬ m.kind = 5) (h2 : ¬ m.kind < 2) (h6 : ¬ 6 < m.kind) : Calls Try.prog 13 #[.pointer (some ⟨r, 0, none⟩), recV m (.slice la m.list.length lc)] w fun e w' => ToldP (fun b => w.heap.size ≤ b) w' (errT 8) e ∧ Below w.heap.size w w' := by
  have HC := hid h
  have HFX := hid hx
  have hT := tb8_new (fun _ => False) w (recA m (.slice la m.list.length lc)) zTd
  have HT := hid hT
  unfold recV recA zTd at *
  go_enter Try.func13, Try.ntmps13
  go_upto_region 1 with fail
  generalize (w.alloc (.cells #[.int .i64 m.kind, .int .i64 m.a, .int .i64 m.b, .int .i64 m.c, .int .i64 m.d, .string m.name, .string m.text, .slice la m.list.length lc] 32)).alloc (.cells #[.int .i64 0, .int .i64 0, .int .i64 0, .int .i64 0, .slice none 0 0] 38) = W at *
  have a0 := cell_blk HT.out.x 0 _ rfl
  have a1 := cell_blk HT.out.x 1 _ rfl
  have a2 := cell_blk HT.out.x 2 _ rfl
  have a3 := cell_blk HT.out.x 3 _ rfl
  have a4 := cell_blk HT.out.x 4 _ rfl
  have a5 := cell_blk HT.out.x 5 _ rfl
  have a6 := cell_blk HT.out.x 6 _ rfl
  have a7 := cell_blk HT.out.x 7 _ rfl
  have z0 := cell_blk HT.out.z 0 _ rfl
  have z1 := cell_blk HT.out.z 1 _ rfl
  have z2 := cell_blk HT.out.z 2 _ rfl
  have z3 := cell_blk HT.out.z 3 _ rfl
  have z4 := cell_blk HT.out.z 4 _ rfl
  have fz := frz_blk HT.out.z
  clear hT
  have HF := hid (rfind_any (HC.out.under HT.out.k.base) hf m.name)
  rw [HFX.out] at HF
  unfold findV at HF
  clear h hx
  go_wp2_with fail
  refine HF.out.mono ?_
  rintro e w1 ⟨rfl, rfl⟩
  go_wp2_with fail
  have HT5 := hid ((HT.out).five rfl (.int .i64 8) (.int .i64 0) (.int .i64 0) (.int .i64 0) (.slice none 0 0))
  unfold five at HT5
  generalize ((((W.setCell ⟨w.heap.size + 1, 0, none⟩ (.int .i64 8)).setCell ⟨w.heap.size + 1, 1, none⟩ (.int .i64 0)).setCell ⟨w.heap.size + 1, 2, none⟩ (.int .i64 0)).setCell ⟨w.heap.size + 1, 3, none⟩ (.int .i64 0)).setCell ⟨w.heap.size + 1, 4, none⟩ (.slice none 0 0) = N5 at *
  have r0 := cell_blk HT5.out.z 0 _ rfl
  have r1 := cell_blk HT5.out.z 1 _ rfl
  have r2 := cell_blk HT5.out.z 2 _ rfl
  have r3 := cell_blk HT5.out.z 3 _ rfl
  have r4 := cell_blk HT5.out.z 4 _ rfl
  exact bodyPost_ret (v := .agg #[.int .i64 8, .int .i64 0, .int .i64 0, .int .i64 0, .slice none 0 0]) (by simp [results, Try.results13, go_sem, r0, r1, r2, r3, r4]) rfl (⟨told_nil, by first | exact HT5.out.k.base | exact HT5.out.k.base.drew | exact HT5.out.k.base.drew.drew | exact HT5.out.k.base.drew.drew.drew | exact below_drewN HT5.out.k.base _⟩)
set_option maxHeartbeats 3200000 in
theorem rread_any {w : World} {r : Nat} {vl : Value} {es : List Ent} {ep : Int} (h : DC w r vl es ep) (hf : es.length ≤ 1000) (m : Rc) (la : Option Addr) (lc : Nat) (x : Ent) (hx : findX es m.name = some x) (h4 : m.kind = 4) (hof : x.d.offs.length ≤ 100000) : Calls Try.prog 13 #[.pointer (some ⟨r, 0, none⟩), recV m (.slice la m.list.length lc)] w fun e w' => ToldP (fun b => w.heap.size ≤ b) w' ⟨0, 0, x.d.gen, firstK x.d.offs m.c, []⟩ e ∧ Below w.heap.size w w' := by
  have HC := hid h
  have HFX := hid hx
  have hmem := findX_mem hx
  have HK4 := hid h4
  clear h4
  obtain ⟨o, hoE⟩ : ∃ o, o = firstK x.d.offs m.c := ⟨_, rfl⟩
  obtain ⟨g, hgE⟩ : ∃ g, g = x.d.gen := ⟨_, rfl⟩
  rw [← hoE, ← hgE]
  have HOE := hid hoE
  have HGE := hid hgE
  clear hoE hgE
  have hT := tb8_new (fun _ => False) w (recA m (.slice la m.list.length lc)) zTd
  have HT := hid hT
  unfold recV recA zTd at *
  go_enter Try.func13, Try.ntmps13
  go_upto_region 1 with fail
  generalize (w.alloc (.cells #[.int .i64 m.kind, .int .i64 m.a, .int .i64 m.b, .int .i64 m.c, .int .i64 m.d, .string m.name, .string m.text, .slice la m.list.length lc] 32)).alloc (.cells #[.int .i64 0, .int .i64 0, .int .i64 0, .int .i64 0, .slice none 0 0] 38) = W at *
  have a0 := cell_blk HT.out.x 0 _ rfl
  have a1 := cell_blk HT.out.x 1 _ rfl
  have a2 := cell_blk HT.out.x 2 _ rfl
  have a3 := cell_blk HT.out.x 3 _ rfl
  have a4 := cell_blk HT.out.x 4 _ rfl
  have a5 := cell_blk HT.out.x 5 _ rfl
  have a6 := cell_blk HT.out.x 6 _ rfl
  have a7 := cell_blk HT.out.x 7 _ rfl
  have z0 := cell_blk HT.out.z 0 _ rfl
  have z1 := cell_blk HT.out.z 1 _ rfl
  have z2 := cell_blk HT.out.z 2 _ rfl
  have z3 := cell_blk HT.out.z 3 _ rfl
  have z4 := cell_blk HT.out.z 4 _ rfl
  have fz := frz_blk HT.out.z
  clear hT
  have HF := hid (rfind_any (HC.out.under HT.out.k.base) hf m.name)
  rw [HFX.out] at HF
  unfold findV at HF
  have HE : Hid (DgR W x.b x.n x.vm x.vp x.vo x.vn x.d) := (HC.out.each x hmem).under HT.out.k.base
  have hbl : x.b < w.heap.size := DgR.lt (HC.out.each x hmem)
  have hn1 : ¬ x.b = w.heap.size := by omega
  have hn2 : ¬ w.heap.size = x.b := by omega
  have hn3 : ¬ x.b = w.heap.size + 1 := by omega
  have hn4 : ¬ w.heap.size + 1 = x.b := by omega
  have c1 := HE.out.c1
  have c3 := HE.out.c3
  have hB0 : Below W.heap.size W W := Below.refl _ _
  clear h hx hmem
  have HO : Hid (∀ V, Below W.heap.size W V → Calls Try.prog 27 #[.pointer (some ⟨x.b, 0, none⟩), .int .i64 m.c] V fun e w' => e = .returned (.int .i64 o) ∧ V = w') := by rw [HOE.out]; exact fun V hV => roffset_any (HE.out.under hV) hof m.c
  rw [← HGE.out] at c1
  have h4 := HK4.out
  go_wp2_with fail
  refine HF.out.mono ?_
  rintro e w1 ⟨rfl, rfl⟩
  go_wp2_with fail
  go_region_held3 (fun V => V.cell? ⟨x.b, 1, none⟩ = some (.int .i64 g) ∧ V.cell? ⟨w.heap.size, 3, none⟩ = some (.int .i64 m.c)) (go_keep)
    (first | (go_at_call 27; refine (HO.out _ (by first | exact hB0 | exact hB0.drew)).mono ?_; rintro e w1 ⟨rfl, rfl⟩) | fail)
  go_wp2_with fail
  have HT5 := hid ((HT.out).five rfl (.int .i64 0) (.int .i64 0) (.int .i64 g) (.int .i64 o) (.slice none 0 0))
  unfold five at HT5
  generalize ((((W.setCell ⟨w.heap.size + 1, 0, none⟩ (.int .i64 0)).setCell ⟨w.heap.size + 1, 1, none⟩ (.int .i64 0)).setCell ⟨w.heap.size + 1, 2, none⟩ (.int .i64 g)).setCell ⟨w.heap.size + 1, 3, none⟩ (.int .i64 o)).setCell ⟨w.heap.size + 1, 4, none⟩ (.slice none 0 0) = N5 at *
  have r0 := cell_blk HT5.out.z 0 _ rfl
  have r1 := cell_blk HT5.out.z 1 _ rfl
  have r2 := cell_blk HT5.out.z 2 _ rfl
  have r3 := cell_blk HT5.out.z 3 _ rfl
  have r4 := cell_blk HT5.out.z 4 _ rfl
  exact bodyPost_ret (v := .agg #[.int .i64 0, .int .i64 0, .int .i64 g, .int .i64 o, .slice none 0 0]) (by simp [results, Try.results13, go_sem, r0, r1, r2, r3, r4]) rfl (⟨told_nil, by first | exact HT5.out.k.base | exact HT5.out.k.base.drew | exact HT5.out.k.base.drew.drew | exact HT5.out.k.base.drew.drew.drew | exact below_drewN HT5.out.k.base _⟩)
set_option maxHeartbeats 3200000 in
theorem rnomem_any {w : World} {r : Nat} {vl : Value} {es : List Ent} {ep : Int} (h : DC w r vl es ep) (hf : es.length ≤ 1000) (m : Rc) (la : Option Addr) (lc : Nat) (x : Ent) (hx : findX es m.name = some x) (h1 : ¬ m.kind = 1) (h5 : ¬ m.kind = 5) (h2 : ¬ m.kind < 2) (h6 : ¬ 6 < m.kind) (h4 : ¬ m.kind = 4) (hb : hasB x.d.mem m.a = false) : Calls Try.prog 13 #[.pointer (some ⟨r, 0, none⟩), recV m (.slice la m.list.length lc)] w fun e w' => ToldP (fun b => w.heap.size ≤ b) w' (errT 17) e ∧ Below w.heap.size w w' := by
  have HC := hid h
  have HFX := hid hx
  have hmem := findX_mem hx
  have HHB := hid hb
  clear hb
  have hT := tb8_new (fun _ => False) w (recA m (.slice la m.list.length lc)) zTd
  have HT := hid hT
  unfold recV recA zTd at *
  go_enter Try.func13, Try.ntmps13
  go_upto_region 1 with fail
  generalize (w.alloc (.cells #[.int .i64 m.kind, .int .i64 m.a, .int .i64 m.b, .int .i64 m.c, .int .i64 m.d, .string m.name, .string m.text, .slice la m.list.length lc] 32)).alloc (.cells #[.int .i64 0, .int .i64 0, .int .i64 0, .int .i64 0, .slice none 0 0] 38) = W at *
  have a0 := cell_blk HT.out.x 0 _ rfl
  have a1 := cell_blk HT.out.x 1 _ rfl
  have a2 := cell_blk HT.out.x 2 _ rfl
  have a3 := cell_blk HT.out.x 3 _ rfl
  have a4 := cell_blk HT.out.x 4 _ rfl
  have a5 := cell_blk HT.out.x 5 _ rfl
  have a6 := cell_blk HT.out.x 6 _ rfl
  have a7 := cell_blk HT.out.x 7 _ rfl
  have z0 := cell_blk HT.out.z 0 _ rfl
  have z1 := cell_blk HT.out.z 1 _ rfl
  have z2 := cell_blk HT.out.z 2 _ rfl
  have z3 := cell_blk HT.out.z 3 _ rfl
  have z4 := cell_blk HT.out.z 4 _ rfl
  have fz := frz_blk HT.out.z
  clear hT
  have HF := hid (rfind_any (HC.out.under HT.out.k.base) hf m.name)
  rw [HFX.out] at HF
  unfold findV at HF
  have HE : Hid (DgR W x.b x.n x.vm x.vp x.vo x.vn x.d) := (HC.out.each x hmem).under HT.out.k.base
  have hbl : x.b < w.heap.size := DgR.lt (HC.out.each x hmem)
  have hn1 : ¬ x.b = w.heap.size := by omega
  have hn2 : ¬ w.heap.size = x.b := by omega
  have hn3 : ¬ x.b = w.heap.size + 1 := by omega
  have hn4 : ¬ w.heap.size + 1 = x.b := by omega
  have c1 := HE.out.c1
  have c3 := HE.out.c3
  have hB0 : Below W.heap.size W W := Below.refl _ _
  clear h hx hmem
  have HH : Hid (∀ V, Below W.heap.size W V → Calls Try.prog 28 #[x.vm, .int .i64 m.a] V fun e w' => e = .returned (.bool false) ∧ V = w') := fun V hV => by
    have := rhas_any (HE.out.il.under hV) m.a
    rw [HHB.out] at this
    exact this
  go_wp2_with fail
  refine HF.out.mono ?_
  rintro e w1 ⟨rfl, rfl⟩
  go_wp2_with fail
  go_region_held3 (fun V => V.cell? ⟨x.b, 3, none⟩ = some x.vm ∧ V.cell? ⟨w.heap.size, 1, none⟩ = some (.int .i64 m.a)) (go_keep)
    (first | (go_at_call 28; refine (HH.out _ (by first | exact hB0 | exact hB0.drew)).mono ?_; rintro e w1 ⟨rfl, rfl⟩) | fail)
  go_wp2_with fail
  have HT5 := hid ((HT.out).five rfl (.int .i64 17) (.int .i64 0) (.int .i64 0) (.int .i64 0) (.slice none 0 0))
  unfold five at HT5
  generalize ((((W.setCell ⟨w.heap.size + 1, 0, none⟩ (.int .i64 17)).setCell ⟨w.heap.size + 1, 1, none⟩ (.int .i64 0)).setCell ⟨w.heap.size + 1, 2, none⟩ (.int .i64 0)).setCell ⟨w.heap.size + 1, 3, none⟩ (.int .i64 0)).setCell ⟨w.heap.size + 1, 4, none⟩ (.slice none 0 0) = N5 at *
  have r0 := cell_blk HT5.out.z 0 _ rfl
  have r1 := cell_blk HT5.out.z 1 _ rfl
  have r2 := cell_blk HT5.out.z 2 _ rfl
  have r3 := cell_blk HT5.out.z 3 _ rfl
  have r4 := cell_blk HT5.out.z 4 _ rfl
  exact bodyPost_ret (v := .agg #[.int .i64 17, .int .i64 0, .int .i64 0, .int .i64 0, .slice none 0 0]) (by simp [results, Try.results13, go_sem, r0, r1, r2, r3, r4]) rfl (⟨told_nil, by first | exact HT5.out.k.base | exact HT5.out.k.base.drew | exact HT5.out.k.base.drew.drew | exact HT5.out.k.base.drew.drew.drew | exact below_drewN HT5.out.k.base _⟩)
set_option maxHeartbeats 3200000 in
theorem rgen_any {w : World} {r : Nat} {vl : Value} {es : List Ent} {ep : Int} (h : DC w r vl es ep) (hf : es.length ≤ 1000) (m : Rc) (la : Option Addr) (lc : Nat) (x : Ent) (hx : findX es m.name = some x) (h1 : ¬ m.kind = 1) (h5 : ¬ m.kind = 5) (h2 : ¬ m.kind < 2) (h6 : ¬ 6 < m.kind) (h4 : ¬ m.kind = 4) (hk2 : ¬ m.kind = 2) (hb : hasB x.d.mem m.a = true) (hg : ¬ m.b = x.d.gen) : Calls Try.prog 13 #[.pointer (some ⟨r, 0, none⟩), recV m (.slice la m.list.length lc)] w fun e w' => ToldP (fun b => w.heap.size ≤ b) w' (errT 18) e ∧ Below w.heap.size w w' := by
  have HC := hid h
  have HFX := hid hx
  have hmem := findX_mem hx
  have HHB := hid hb
  clear hb
  have hT := tb8_new (fun _ => False) w (recA m (.slice la m.list.length lc)) zTd
  have HT := hid hT
  unfold recV recA zTd at *
  go_enter Try.func13, Try.ntmps13
  go_upto_region 1 with fail
  generalize (w.alloc (.cells #[.int .i64 m.kind, .int .i64 m.a, .int .i64 m.b, .int .i64 m.c, .int .i64 m.d, .string m.name, .string m.text, .slice la m.list.length lc] 32)).alloc (.cells #[.int .i64 0, .int .i64 0, .int .i64 0, .int .i64 0, .slice none 0 0] 38) = W at *
  have a0 := cell_blk HT.out.x 0 _ rfl
  have a1 := cell_blk HT.out.x 1 _ rfl
  have a2 := cell_blk HT.out.x 2 _ rfl
  have a3 := cell_blk HT.out.x 3 _ rfl
  have a4 := cell_blk HT.out.x 4 _ rfl
  have a5 := cell_blk HT.out.x 5 _ rfl
  have a6 := cell_blk HT.out.x 6 _ rfl
  have a7 := cell_blk HT.out.x 7 _ rfl
  have z0 := cell_blk HT.out.z 0 _ rfl
  have z1 := cell_blk HT.out.z 1 _ rfl
  have z2 := cell_blk HT.out.z 2 _ rfl
  have z3 := cell_blk HT.out.z 3 _ rfl
  have z4 := cell_blk HT.out.z 4 _ rfl
  have fz := frz_blk HT.out.z
  clear hT
  have HF := hid (rfind_any (HC.out.under HT.out.k.base) hf m.name)
  rw [HFX.out] at HF
  unfold findV at HF
  have HE : Hid (DgR W x.b x.n x.vm x.vp x.vo x.vn x.d) := (HC.out.each x hmem).under HT.out.k.base
  have hbl : x.b < w.heap.size := DgR.lt (HC.out.each x hmem)
  have hn1 : ¬ x.b = w.heap.size := by omega
  have hn2 : ¬ w.heap.size = x.b := by omega
  have hn3 : ¬ x.b = w.heap.size + 1 := by omega
  have hn4 : ¬ w.heap.size + 1 = x.b := by omega
  have c1 := HE.out.c1
  have c3 := HE.out.c3
  have hB0 : Below W.heap.size W W := Below.refl _ _
  clear h hx hmem
  have HH : Hid (∀ V, Below W.heap.size W V → Calls Try.prog 28 #[x.vm, .int .i64 m.a] V fun e w' => e = .returned (.bool true) ∧ V = w') := fun V hV => by
    have := rhas_any (HE.out.il.under hV) m.a
    rw [HHB.out] at this
    exact this
  go_wp2_with fail
  refine HF.out.mono ?_
  rintro e w1 ⟨rfl, rfl⟩
  go_wp2_with fail
  go_region_held3 (fun V => V.cell? ⟨x.b, 3, none⟩ = some x.vm ∧ V.cell? ⟨w.heap.size, 1, none⟩ = some (.int .i64 m.a)) (go_keep)
    (first | (go_at_call 28; refine (HH.out _ (by first | exact hB0 | exact hB0.drew)).mono ?_; rintro e w1 ⟨rfl, rfl⟩) | fail)
  go_wp2_with fail
  go_region_held3 (fun V => V.cell? ⟨x.b, 1, none⟩ = some (.int .i64 x.d.gen) ∧ V.cell? ⟨w.heap.size, 2, none⟩ = some (.int .i64 m.b)) (go_keep) (fail)
  go_wp2_with fail
  have HT5 := hid ((HT.out).five rfl (.int .i64 18) (.int .i64 0) (.int .i64 0) (.int .i64 0) (.slice none 0 0))
  unfold five at HT5
  generalize ((((W.setCell ⟨w.heap.size + 1, 0, none⟩ (.int .i64 18)).setCell ⟨w.heap.size + 1, 1, none⟩ (.int .i64 0)).setCell ⟨w.heap.size + 1, 2, none⟩ (.int .i64 0)).setCell ⟨w.heap.size + 1, 3, none⟩ (.int .i64 0)).setCell ⟨w.heap.size + 1, 4, none⟩ (.slice none 0 0) = N5 at *
  have r0 := cell_blk HT5.out.z 0 _ rfl
  have r1 := cell_blk HT5.out.z 1 _ rfl
  have r2 := cell_blk HT5.out.z 2 _ rfl
  have r3 := cell_blk HT5.out.z 3 _ rfl
  have r4 := cell_blk HT5.out.z 4 _ rfl
  exact bodyPost_ret (v := .agg #[.int .i64 18, .int .i64 0, .int .i64 0, .int .i64 0, .slice none 0 0]) (by simp [results, Try.results13, go_sem, r0, r1, r2, r3, r4]) rfl (⟨told_nil, by first | exact HT5.out.k.base | exact HT5.out.k.base.drew | exact HT5.out.k.base.drew.drew | exact HT5.out.k.base.drew.drew.drew | exact below_drewN HT5.out.k.base _⟩)
end Go.Proofs.Ytdnpbhijjmlecaa

