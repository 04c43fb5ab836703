/- Sync. -/
import Derived.Test.YtdnpbhijjmlecaaG13
import Derived.Test.YtdnpbhijjmlecaaG9
namespace Go.Proofs.Ytdnpbhijjmlecaa
open Go.RowKit Go.Maps
set_option maxRecDepth 100000
set_option linter.unusedSimpArgs false
set_option linter.unusedVariables false

theorem IL.keeps {w w' : World} {S : Nat → Prop} {v : Value} {l : List Int} (h : IL w v l) (hk : Keeps S w w') (hX : In (fun k => ¬ S k) v l) : IL w' v l := by
  obtain ⟨⟨a, cap, rfl, h1, h2, h3, h4⟩, h5, h6⟩ := h
  refine ⟨⟨a, cap, rfl, h1, h2, h3, fun hn => ?_⟩, h5, h6⟩
  obtain ⟨b, off, rfl, e2, e3⟩ := h4 hn
  exact ⟨b, off, rfl, Nat.lt_of_lt_of_le e2 hk.size, fun i hi => (World.cell?_of_block (a := ⟨b, off + i, none⟩) (hk.block b e2 (hX hn b off _ _ rfl))).trans (e3 i hi)⟩
set_option maxHeartbeats 1600000 in
theorem sync_any {w : World} {q : Nat} {vm vp vo : Value} {x : Gr} (h : GrR w q vm vp vo x) (hf : x.mem.length ≤ 1000) (h64 : ∀ y ∈ x.mem, I64 y.id) (m : Rc) (la : Option Addr) (ln lc : Nat) :
    Calls Try.prog 62 #[.pointer (some ⟨q, 0, none⟩), recV m (.slice la ln lc)] w fun e w' => ToldP (fun b => w.heap.size ≤ b) w' (syncI x m).2 e ∧ Below w.heap.size w w' := by
  have hT := tb_new (fun _ => False) w (recA m (.slice la ln lc)) zTd
  have HT := hid hT
  have HR := hid (h.under hT.k.base)
  have HME := hid (memE_any HR.out hf m la ln lc)
  have a0 := cell_blk hT.x 0 _ rfl
  have a1 := cell_blk hT.x 1 _ rfl
  have a2 := cell_blk hT.x 2 _ rfl
  have a3 := cell_blk hT.x 3 _ rfl
  have a4 := cell_blk hT.x 4 _ rfl
  have a5 := cell_blk hT.x 5 _ rfl
  have a6 := cell_blk hT.x 6 _ rfl
  have a7 := cell_blk hT.x 7 _ rfl
  have hq := h.lt
  have hn1 : ¬ q = w.heap.size + 1 := by omega
  have hn2 : ¬ w.heap.size + 1 = q := by omega
  have HTOLD : Hid ((syncI x m).2 = if memE x m ≠ 0 then errT (memE x m) else ⟨0, m.a, x.gen, 0, partsOf x m.a⟩) := by
    show _ = _
    unfold syncI
    split <;> rfl
  have HMH := hid (memE_has (x := x) (m := m))
  have HP : Hid (hasM x m.a = true → ∀ V, Below ((w.alloc (.cells (recA m (.slice la ln lc)) 32)).alloc (.cells zTd 36)).heap.size ((w.alloc (.cells (recA m (.slice la ln lc)) 32)).alloc (.cells zTd 36)) V → Calls Try.prog 49 #[.pointer (some ⟨q, 0, none⟩), .int .i64 m.a] V fun e w' => ∃ v', e = .returned v' ∧ IL w' v' (partsOf x m.a) ∧ In (fun b => V.heap.size ≤ b) v' (partsOf x m.a) ∧ Below V.heap.size V w') := fun hh V hV => partsOf_any (HR.out.under hV) hf h64 m.a hh
  have HC : Hid (∀ V, Below ((w.alloc (.cells (recA m (.slice la ln lc)) 32)).alloc (.cells zTd 36)).heap.size ((w.alloc (.cells (recA m (.slice la ln lc)) 32)).alloc (.cells zTd 36)) V → V.cell? ⟨w.heap.size, 1, none⟩ = some (.int .i64 m.a) ∧ V.cell? ⟨q, 0, none⟩ = some (.int .i64 x.gen) ∧ TB (fun _ => False) w V (recA m (.slice la ln lc)) zTd) := fun V hV => ⟨kept_cell hV a1, (HR.out.under hV).c0, HT.out.under hV⟩
  generalize (syncI x m).2 = T at *
  generalize memE x m = E0 at *
  unfold recV recA zTd at *
  clear h hT
  by_cases h0 : E0 = 0
  · subst h0
    have HPO := hid (HP.out (HMH.out rfl).1)
    rw [if_neg (by simp)] at HTOLD
    clear HP HMH
    go_enter Try.func62, Try.ntmps62
    go_wp2_with fail
    generalize (w.alloc (.cells #[.int .i64 m.kind, .int .i64 m.a, .int .i64 m.b, .int .i64 m.c, .int .i64 m.d, .string m.name, .string m.text, .slice la ln lc] 32)).alloc (.cells #[.int .i64 0, .int .i64 0, .int .i64 0, .int .i64 0, .slice none 0 0] 36) = W at *
    refine HME.out.mono ?_
    rintro e w1 ⟨rfl, hb1⟩
    obtain ⟨b1, c0, ht1⟩ := HC.out w1 hb1
    have HT1 := hid ht1
    have HB1 := hid hb1
    clear hb1 ht1 HME a0 a1 a2 a3 a4 a5 a6 a7
    generalize x.gen = g at *
    generalize m.a = ma at *
    go_wp2_with fail
    go_region_held3 (fun V => V.cell? ⟨q, 0, none⟩ = some (.int .i64 g) ∧ V.cell? ⟨w.heap.size, 1, none⟩ = some (.int .i64 ma)) (go_keep)
      (first | (go_at_call 49; refine (HPO.out _ (by first | exact HB1.out | exact HB1.out.drew)).mono ?_; rintro e w2 ⟨v', rfl, hi2, hin2, hb2⟩; obtain ⟨va, vn, vc, rfl⟩ : ∃ a n c, v' = .slice a n c := (by obtain ⟨⟨a, cap, e, _⟩, _⟩ := hi2; exact ⟨_, _, _, e⟩); have HI2 := hid hi2; have HIN2 := hid hin2; have HB2 := hid hb2; obtain ⟨d1, d2, ht2⟩ := HC.out w2 ((show Below W.heap.size W _ by first | exact HB1.out | exact HB1.out.drew).trans (hb2.mono (show Below W.heap.size W _ by first | exact HB1.out | exact HB1.out.drew).size)); have z0 := cell_blk ht2.z 0 _ rfl; have z1 := cell_blk ht2.z 1 _ rfl; have z2 := cell_blk ht2.z 2 _ rfl; have z3 := cell_blk ht2.z 3 _ rfl; have z4 := cell_blk ht2.z 4 _ rfl; have fz := frz_blk ht2.z; have HT2 := hid ht2; clear hi2 hin2 hb2 ht2) | fail)
    go_wp2_with fail
    obtain rfl : vn = (partsOf x ma).length := by obtain ⟨⟨a, cap, e, _⟩, _⟩ := HI2.out; cases e; rfl
    have hs1 := HT1.out.s
    clear z0 z1 z2 z3 z4 fz
    have HT5 := hid ((HT2.out).five rfl (.int .i64 0) (.int .i64 ma) (.int .i64 g) (.int .i64 0) (.slice va (partsOf x ma).length vc))
    have HK5 := hid (five_keeps (w2) (w.heap.size + 1) (.int .i64 0) (.int .i64 ma) (.int .i64 g) (.int .i64 0) (.slice va (partsOf x ma).length vc))
    unfold five at HT5 HK5
    generalize ((((w2.setCell ⟨w.heap.size + 1, 0, none⟩ (.int .i64 0)).setCell ⟨w.heap.size + 1, 1, none⟩ (.int .i64 ma)).setCell ⟨w.heap.size + 1, 2, none⟩ (.int .i64 g)).setCell ⟨w.heap.size + 1, 3, none⟩ (.int .i64 0)).setCell ⟨w.heap.size + 1, 4, none⟩ (.slice va (partsOf x ma).length vc) = N5 at *
    have r0 := cell_blk HT5.out.z 0 _ rfl
    have r1 := cell_blk HT5.out.z 1 _ rfl
    have r2 := cell_blk HT5.out.z 2 _ rfl
    have r3 := cell_blk HT5.out.z 3 _ rfl
    have r4 := cell_blk HT5.out.z 4 _ rfl
    exact bodyPost_ret (v := .agg #[.int .i64 0, .int .i64 ma, .int .i64 g, .int .i64 0, .slice va (partsOf x ma).length vc]) (by simp [results, Try.results62, go_sem, r0, r1, r2, r3, r4]) rfl (by rw [HTOLD.out]; exact ⟨⟨va, vc, rfl, HI2.out.keeps HK5.out (HIN2.out.mono fun b hb => by have : w1.heap.size ≤ b := hb; omega), HIN2.out.mono fun b hb => by have : w1.heap.size ≤ b := hb; omega⟩, HT5.out.k.base⟩)
  · rw [if_pos h0] at HTOLD
    have h0' : (E0 == 0) = false := by simpa using h0
    clear HP HMH
    go_enter Try.func62, Try.ntmps62
    go_wp2_with fail
    generalize (w.alloc (.cells #[.int .i64 m.kind, .int .i64 m.a, .int .i64 m.b, .int .i64 m.c, .int .i64 m.d, .string m.name, .string m.text, .slice la ln lc] 32)).alloc (.cells #[.int .i64 0, .int .i64 0, .int .i64 0, .int .i64 0, .slice none 0 0] 36) = W at *
    refine HME.out.mono ?_
    rintro e w1 ⟨rfl, hb1⟩
    obtain ⟨b1, c0, ht1⟩ := HC.out w1 hb1
    have z0 := cell_blk ht1.z 0 _ rfl
    have z1 := cell_blk ht1.z 1 _ rfl
    have z2 := cell_blk ht1.z 2 _ rfl
    have z3 := cell_blk ht1.z 3 _ rfl
    have z4 := cell_blk ht1.z 4 _ rfl
    have fz := frz_blk ht1.z
    have HT1 := hid ht1
    clear hb1 ht1 HME a0 a1 a2 a3 a4 a5 a6 a7
    go_wp2_with fail
    clear z0 z1 z2 z3 z4 fz
    have HT5 := hid ((HT1.out).five rfl (.int .i64 E0) (.int .i64 0) (.int .i64 0) (.int .i64 0) (.slice none 0 0))
    have HK5 := hid (five_keeps (w1) (w.heap.size + 1) (.int .i64 E0) (.int .i64 0) (.int .i64 0) (.int .i64 0) (.slice none 0 0))
    unfold five at HT5 HK5
    generalize ((((w1.setCell ⟨w.heap.size + 1, 0, none⟩ (.int .i64 E0)).setCell ⟨w.heap.size + 1, 1, none⟩ (.int .i64 0)).setCell ⟨w.heap.size + 1, 2, none⟩ (.int .i64 0)).setCell ⟨w.heap.size + 1, 3, none⟩ (.int .i64 0)).setCell ⟨w.heap.size + 1, 4, none⟩ (.slice none 0 0) = N5 at *
    have r0 := cell_blk HT5.out.z 0 _ rfl
    have r1 := cell_blk HT5.out.z 1 _ rfl
    have r2 := cell_blk HT5.out.z 2 _ rfl
    have r3 := cell_blk HT5.out.z 3 _ rfl
    have r4 := cell_blk HT5.out.z 4 _ rfl
    exact bodyPost_ret (v := .agg #[.int .i64 E0, .int .i64 0, .int .i64 0, .int .i64 0, .slice none 0 0]) (by simp [results, Try.results62, go_sem, r0, r1, r2, r3, r4]) rfl (by rw [HTOLD.out]; exact ⟨told_nil, HT5.out.k.base⟩)
end Go.Proofs.Ytdnpbhijjmlecaa
