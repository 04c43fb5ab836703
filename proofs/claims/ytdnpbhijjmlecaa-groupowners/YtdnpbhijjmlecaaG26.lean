/- Apply. -/
import Derived.Test.YtdnpbhijjmlecaaG25
import Derived.Test.YtdnpbhijjmlecaaG9
import Derived.Deep.CutRange
import Derived.Deep.CutBlock
namespace Go.Proofs.Ytdnpbhijjmlecaa
open Go.RowKit Go.Maps
set_option maxRecDepth 100000
set_option linter.unusedSimpArgs false
set_option linter.unusedVariables false

theorem app_end {w V w5 N : World} {Z : Nat → Prop} {q : Nat} {S : Gs} (hZl : ∀ j, Z j → j < w.heap.size) (hb : Below w.heap.size w V) (hs : w.heap.size + 2 ≤ V.heap.size) {t : Td} {e : Ending} (ho : OutA Z V w5 q S t e) (hN : Keeps (fun j => j = w.heap.size + 1) w5 N) : OutA Z w N q S t e := by
  obtain ⟨Z5, h1, h2, h3, a, c, h4, h5, h6⟩ := ho
  have hz5 := h1.z
  have hny : ∀ j, Z5 j → j ≠ w.heap.size + 1 := fun j hj => by
    rcases h2 j hj with g | g
    · have := hZl j g; omega
    · omega
  refine ⟨Z5, h1.kept (fun j hj => hN.block j (hz5 j hj) (hny j hj)) hN.size, fun j hj => (h2 j hj).elim .inl (fun g => .inr (by omega)), ((Keeps.of_below (S := Z) hb).trans h3 (fun _ k => .inl k)).trans hN (fun j hj => .inr (by omega)), a, c, h4, h5.keeps hN (h6.mono (fun j hj => by omega)), h6.mono (fun j hj => ⟨by omega, hj.2⟩)⟩
theorem does_any {w : World} {Z : Nat → Prop} {q : Nat} {S : Gs} {N : Nat} (h : AllM w Z q S) (hok : GsOk N S) (hN : N ≤ 1000000) (m : Rc) (hrc : RcOk m) (hnm : m.name.size ≤ maxLen) (la : Option Addr) (lc : Nat) (hl : IL w (.slice la m.list.length lc) m.list) (hlz : In (fun k => ¬ Z k) (.slice la m.list.length lc) m.list) :
    Calls Try.prog (kindF m.kind) #[.pointer (some ⟨q, 0, none⟩), recV m (.slice la m.list.length lc)] w fun e w' => OutA Z w w' q (applyI S m).1 (applyI S m).2 e := by
  unfold kindF applyI
  by_cases h1 : m.kind = 1
  · simp only [h1, if_true]
    exact join_any h hok hN m hrc hnm la lc hl hlz
  · by_cases h2 : m.kind = 2 ∨ m.kind = 3 ∨ m.kind = 4 ∨ m.kind = 6
    · rw [if_neg h1, if_pos h2, if_neg h1, if_pos h2]
      exact ask_any h hok hN m hrc hnm la lc hl hlz
    · by_cases h5 : m.kind = 5
      · rw [if_neg h1, if_neg h2, if_pos h5, if_neg h1, if_neg h2, if_pos h5]
        exact begin_any h m hrc hok.epoch la _ lc
      · rw [if_neg h1, if_neg h2, if_neg h5, if_neg h1, if_neg h2, if_neg h5]
        exact refuse_any h m la _ lc
set_option maxHeartbeats 3200000 in
theorem apply_any {w : World} {Z : Nat → Prop} {q : Nat} {S : Gs} {N : Nat} (h : AllM w Z q S) (hok : GsOk N S) (hN : N ≤ 1000000) (m : Rc) (hrc : RcOk m) (hnm : m.name.size ≤ maxLen) (la : Option Addr) (lc : Nat) (hl : IL w (.slice la m.list.length lc) m.list) (hlz : In (fun k => ¬ Z k) (.slice la m.list.length lc) m.list) :
    Calls Try.prog 12 #[.pointer (some ⟨q, 0, none⟩), recV m (.slice la m.list.length lc)] w fun e w' => OutA Z w w' q (applyI S m).1 (applyI S m).2 e := by
  have hT := tb_new Z w (recA m (.slice la m.list.length lc)) zTd
  have HT := hid hT
  have hbW : Below w.heap.size w ((w.alloc (.cells (recA m (.slice la m.list.length lc)) 32)).alloc (.cells zTd 36)) := (tb_new (fun _ => False) w (recA m (.slice la m.list.length lc)) zTd).k.base
  have HBW := hid hbW
  have HZL := hid h.z
  have HDO := hid (does_any (h.under hbW) hok hN m hrc hnm la lc (hl.under hbW) hlz)
  have HKD := hid (fun V => kind_any m.kind V)
  have a0 := cell_blk hT.x 0 _ rfl
  have a1 := cell_blk hT.x 1 _ rfl
  have a2 := cell_blk hT.x 2 _ rfl
  have a3 := cell_blk hT.x 3 _ rfl
  have a4 := cell_blk hT.x 4 _ rfl
  have a5 := cell_blk hT.x 5 _ rfl
  have a6 := cell_blk hT.x 6 _ rfl
  have a7 := cell_blk hT.x 7 _ rfl
  have HNF : Hid (kindF m.kind = 38 ∨ kindF m.kind = 39 ∨ kindF m.kind = 40 ∨ kindF m.kind = 41) := by
    show _ ∨ _
    unfold kindF
    by_cases k1 : m.kind = 1
    · exact .inl (by rw [if_pos k1])
    · by_cases k2 : m.kind = 2 ∨ m.kind = 3 ∨ m.kind = 4 ∨ m.kind = 6
      · exact .inr (.inl (by rw [if_neg k1, if_pos k2]))
      · by_cases k5 : m.kind = 5
        · exact .inr (.inr (.inl (by rw [if_neg k1, if_neg k2, if_pos k5])))
        · exact .inr (.inr (.inr (by rw [if_neg k1, if_neg k2, if_neg k5])))
  unfold recV recA zTd at *
  generalize kindF m.kind = nF at *
  clear hT hbW h hl hlz hok hrc
  go_enter Try.func12, Try.ntmps12
  go_wp2_with fail
  generalize (w.alloc (.cells #[.int .i64 m.kind, .int .i64 m.a, .int .i64 m.b, .int .i64 m.c, .int .i64 m.d, .string m.name, .string m.text, .slice la m.list.length lc] 32)).alloc (.cells #[.int .i64 0, .int .i64 0, .int .i64 0, .int .i64 0, .slice none 0 0] 36) = W at *
  refine (HKD.out _).mono ?_
  rintro e w2 ⟨rfl, rfl⟩
  rcases HNF.out with rfl | rfl | rfl | rfl
  all_goals
    go_wp2_with fail
    refine HDO.out.mono ?_
    rintro e w5 hog
    have HOG := hid hog
    obtain ⟨Z5, g1, g2, g3, ga, gc, rfl, g5, g6⟩ := hog
    have ht5 := HT.out.next g3 (fun j hj => .inl hj) (fun hj => by have := HZL.out _ hj; omega) (fun hj => by have := HZL.out _ hj; omega)
    clear a0 a1 a2 a3 a4 a5 a6 a7
    have z0 := cell_blk ht5.z 0 _ rfl
    have z1 := cell_blk ht5.z 1 _ rfl
    have z2 := cell_blk ht5.z 2 _ rfl
    have z3 := cell_blk ht5.z 3 _ rfl
    have z4 := cell_blk ht5.z 4 _ rfl
    have fz := frz_blk ht5.z
    have HT5a := hid ht5
    clear g1 g2 g3 g5 g6 ht5
    generalize hY : (applyI S m).1 = Y at *
    generalize hT2 : (applyI S m).2 = T at *
    have HYE := hid hY
    have HTE := hid hT2
    clear hY hT2
    obtain ⟨te, tm, tg, tof, tp⟩ := T
    go_wp2_with fail
    clear z0 z1 z2 z3 z4 fz
    have HT5 := hid ((HT5a.out).five rfl (.int .i64 te) (.int .i64 tm) (.int .i64 tg) (.int .i64 tof) (.slice ga tp.length gc))
    have HK5 := hid (five_keeps (w5) (w.heap.size + 1) (.int .i64 te) (.int .i64 tm) (.int .i64 tg) (.int .i64 tof) (.slice ga tp.length gc))
    unfold five at HT5 HK5
    generalize ((((w5.setCell ⟨w.heap.size + 1, 0, none⟩ (.int .i64 te)).setCell ⟨w.heap.size + 1, 1, none⟩ (.int .i64 tm)).setCell ⟨w.heap.size + 1, 2, none⟩ (.int .i64 tg)).setCell ⟨w.heap.size + 1, 3, none⟩ (.int .i64 tof)).setCell ⟨w.heap.size + 1, 4, none⟩ (.slice ga tp.length gc) = N5 at *
    have r0 := cell_blk HT5.out.z 0 _ rfl
    have r1 := cell_blk HT5.out.z 1 _ rfl
    have r2 := cell_blk HT5.out.z 2 _ rfl
    have r3 := cell_blk HT5.out.z 3 _ rfl
    have r4 := cell_blk HT5.out.z 4 _ rfl
    exact bodyPost_ret (v := .agg #[.int .i64 te, .int .i64 tm, .int .i64 tg, .int .i64 tof, .slice ga tp.length gc]) (by simp [results, Try.results12, go_sem, r0, r1, r2, r3, r4]) rfl (by
      rw [HYE.out, HTE.out]
      exact app_end HZL.out HBW.out HT.out.s HOG.out HK5.out)
end Go.Proofs.Ytdnpbhijjmlecaa
