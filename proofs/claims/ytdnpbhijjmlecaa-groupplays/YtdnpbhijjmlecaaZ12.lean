/- The document's Apply: a sync; commits that are refused. -/
import Derived.Test.YtdnpbhijjmlecaaZ11
namespace Go.Proofs.Ytdnpbhijjmlecaa
open Go.RowKit Go.Maps
set_option maxRecDepth 100000
set_option linter.unusedSimpArgs false
set_option linter.unusedVariables false

set_option maxHeartbeats 3200000 in
theorem rsync_any {w : World} {r : Nat} {vl : Value} {es : List Ent} {ep : Int} (h : DC w r vl es ep) (hf : es.length ≤ 1000) (m : Rc) (la : Option Addr) (lc : Nat) (x : Ent) (hx : findX es m.name = some x) (h1 : ¬ m.kind = 1) (h5 : ¬ m.kind = 5) (h2 : ¬ m.kind < 2) (h6 : ¬ 6 < m.kind) (h4 : ¬ m.kind = 4) (hk2 : ¬ m.kind = 2) (hb : hasB x.d.mem m.a = true) (hg : m.b = x.d.gen) (hk6 : m.kind = 6) : Calls Try.prog 13 #[.pointer (some ⟨r, 0, none⟩), recV m (.slice la m.list.length lc)] w fun e w' => ToldP (fun b => w.heap.size ≤ b) w' ⟨0, m.a, x.d.gen, 0, partsD x.d.mem x.d.parts m.a⟩ e ∧ Below w.heap.size w w' := by
  have HC := hid h
  have HFX := hid hx
  have hmem := findX_mem hx
  have HHB := hid hb
  clear hb
  obtain ⟨g, hgE⟩ : ∃ g, g = x.d.gen := ⟨_, rfl⟩
  have HGM : Hid (m.b = g) := hg.trans hgE.symm
  rw [← hgE]
  have HGE := hid hgE
  clear hgE hg
  have HK6 := hid hk6
  clear hk6
  obtain ⟨P, hpE⟩ : ∃ P, P = partsD x.d.mem x.d.parts m.a := ⟨_, rfl⟩
  rw [← hpE]
  have HPE := hid hpE
  clear hpE
  have hT := tb8_new (fun _ => False) w (recA m (.slice la m.list.length lc)) zTd
  have HT := hid hT
  unfold recV recA zTd at *
  go_enter Try.func13, Try.ntmps13
  go_upto_region 1 with fail
  generalize (w.alloc (.cells #[.int .i64 m.kind, .int .i64 m.a, .int .i64 m.b, .int .i64 m.c, .int .i64 m.d, .string m.name, .string m.text, .slice la m.list.length lc] 32)).alloc (.cells #[.int .i64 0, .int .i64 0, .int .i64 0, .int .i64 0, .slice none 0 0] 38) = W at *
  have a0 := cell_blk HT.out.x 0 _ rfl
  have a1 := cell_blk HT.out.x 1 _ rfl
  have a2 := cell_blk HT.out.x 2 _ rfl
  have a3 := cell_blk HT.out.x 3 _ rfl
  have a4 := cell_blk HT.out.x 4 _ rfl
  have a5 := cell_blk HT.out.x 5 _ rfl
  have a6 := cell_blk HT.out.x 6 _ rfl
  have a7 := cell_blk HT.out.x 7 _ rfl
  have z0 := cell_blk HT.out.z 0 _ rfl
  have z1 := cell_blk HT.out.z 1 _ rfl
  have z2 := cell_blk HT.out.z 2 _ rfl
  have z3 := cell_blk HT.out.z 3 _ rfl
  have z4 := cell_blk HT.out.z 4 _ rfl
  have fz := frz_blk HT.out.z
  clear hT
  have HF := hid (rfind_any (HC.out.under HT.out.k.base) hf m.name)
  rw [HFX.out] at HF
  unfold findV at HF
  have HE : Hid (DgR W x.b x.n x.vm x.vp x.vo x.vn x.d) := (HC.out.each x hmem).under HT.out.k.base
  have hbl : x.b < w.heap.size := DgR.lt (HC.out.each x hmem)
  have hn1 : ¬ x.b = w.heap.size := by omega
  have hn2 : ¬ w.heap.size = x.b := by omega
  have hn3 : ¬ x.b = w.heap.size + 1 := by omega
  have hn4 : ¬ w.heap.size + 1 = x.b := by omega
  have c1 := HE.out.c1
  have c3 := HE.out.c3
  have hB0 : Below W.heap.size W W := Below.refl _ _
  clear h hx hmem
  rw [← HGE.out] at c1
  rw [HGM.out] at a2
  have HH : Hid (∀ V, Below W.heap.size W V → Calls Try.prog 28 #[x.vm, .int .i64 m.a] V fun e w' => e = .returned (.bool true) ∧ V = w') := fun V hV => by
    have := rhas_any (HE.out.il.under hV) m.a
    rw [HHB.out] at this
    exact this
  go_wp2_with fail
  refine HF.out.mono ?_
  rintro e w1 ⟨rfl, rfl⟩
  go_wp2_with fail
  go_region_held3 (fun V => V.cell? ⟨x.b, 3, none⟩ = some x.vm ∧ V.cell? ⟨w.heap.size, 1, none⟩ = some (.int .i64 m.a)) (go_keep)
    (first | (go_at_call 28; refine (HH.out _ (by first | exact hB0 | exact hB0.drew)).mono ?_; rintro e w1 ⟨rfl, rfl⟩) | fail)
  go_wp2_with fail
  go_region_held3 (fun V => V.cell? ⟨x.b, 1, none⟩ = some (.int .i64 g) ∧ V.cell? ⟨w.heap.size, 2, none⟩ = some (.int .i64 g)) (go_keep) (fail)
  have h6 := HK6.out
  have HP : Hid (∀ V, Below W.heap.size W V → Calls Try.prog 29 #[.pointer (some ⟨x.b, 0, none⟩), .int .i64 m.a] V fun e w' => ∃ a c, e = .returned (.slice a P.length c) ∧ IL w' (.slice a P.length c) P ∧ In (fun k => V.heap.size ≤ k) (.slice a P.length c) P ∧ Below V.heap.size V w') := by rw [HPE.out]; exact fun V hV => rparts_any (HE.out.under hV) m.a
  go_wp2_with fail
  go_region_held3 (fun V => V.cell? ⟨x.b, 1, none⟩ = some (.int .i64 g) ∧ V.cell? ⟨w.heap.size, 1, none⟩ = some (.int .i64 m.a)) (go_keep)
    (first | (go_at_call 29; refine (HP.out _ (by repeat (first | exact hB0 | apply Below.drew))).mono ?_; rintro e w5 ⟨pa, pc, rfl, hil5, hin5, hb5⟩; have hB5 := (show Below W.heap.size W _ by repeat (first | exact hB0 | apply Below.drew)).trans hb5; have HIL5 := hid hil5; have HIN5 := hid hin5; have HT6 := hid (HT.out.under hB5); clear c1 c3 a0 a1 a2 a3 a4 a5 a6 a7 z0 z1 z2 z3 z4 fz; have c1 := (HE.out.under hB5).c1; rw [← HGE.out] at c1; have a1 := cell_blk HT6.out.x 1 _ rfl; have z0 := cell_blk HT6.out.z 0 _ rfl; have z1 := cell_blk HT6.out.z 1 _ rfl; have z2 := cell_blk HT6.out.z 2 _ rfl; have z3 := cell_blk HT6.out.z 3 _ rfl; have z4 := cell_blk HT6.out.z 4 _ rfl; have fz := frz_blk HT6.out.z) | fail)
  go_wp2_with fail
  have HT5 := hid ((HT6.out).five rfl (.int .i64 0) (.int .i64 m.a) (.int .i64 g) (.int .i64 0) (.slice pa P.length pc))
  have HK5 := hid (five_keeps w5 (w.heap.size + 1) (.int .i64 0) (.int .i64 m.a) (.int .i64 g) (.int .i64 0) (.slice pa P.length pc))
  unfold five at HT5 HK5
  generalize ((((w5.setCell ⟨w.heap.size + 1, 0, none⟩ (.int .i64 0)).setCell ⟨w.heap.size + 1, 1, none⟩ (.int .i64 m.a)).setCell ⟨w.heap.size + 1, 2, none⟩ (.int .i64 g)).setCell ⟨w.heap.size + 1, 3, none⟩ (.int .i64 0)).setCell ⟨w.heap.size + 1, 4, none⟩ (.slice pa P.length pc) = N5 at *
  have hs0 := HT.out.s
  have hi5 : IL N5 (.slice pa P.length pc) P := HIL5.out.kept (X := fun k => W.heap.size ≤ k ∧ k < w5.heap.size) (fun hn b off n c e => ⟨(HIN5.out hn b off n c e : W.heap.size ≤ b), HIL5.out.old hn b off n c e⟩) (fun k hk => HK5.out.block k hk.2 (by omega)) HK5.out.size
  have hin : In (fun k => w.heap.size ≤ k) (.slice pa P.length pc) P := fun hn b off n c e => by have : W.heap.size ≤ b := HIN5.out hn b off n c e; omega
  have hB9 := HT5.out.k.base
  have r0 := cell_blk HT5.out.z 0 _ rfl
  have r1 := cell_blk HT5.out.z 1 _ rfl
  have r2 := cell_blk HT5.out.z 2 _ rfl
  have r3 := cell_blk HT5.out.z 3 _ rfl
  have r4 := cell_blk HT5.out.z 4 _ rfl
  exact bodyPost_ret (v := .agg #[.int .i64 0, .int .i64 m.a, .int .i64 g, .int .i64 0, .slice pa P.length pc]) (by simp [results, Try.results13, go_sem, r0, r1, r2, r3, r4]) rfl (by first | exact ⟨⟨pa, pc, rfl, hi5, hin⟩, hB9⟩ | exact ⟨⟨pa, pc, rfl, hi5.under (Below.refl _ _).drew, hin⟩, hB9.drew⟩ | exact ⟨⟨pa, pc, rfl, hi5.under (Below.refl _ _).drew.drew, hin⟩, hB9.drew.drew⟩ | exact ⟨⟨pa, pc, rfl, hi5.under (Below.refl _ _).drew.drew.drew, hin⟩, hB9.drew.drew.drew⟩)
end Go.Proofs.Ytdnpbhijjmlecaa

