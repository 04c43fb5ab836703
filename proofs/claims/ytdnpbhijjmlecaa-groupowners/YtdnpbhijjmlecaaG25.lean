/- What is asked of one group. -/
import Derived.Test.YtdnpbhijjmlecaaG24
import Derived.Test.YtdnpbhijjmlecaaG9
import Derived.Deep.CutRange
import Derived.Deep.CutBlock
namespace Go.Proofs.Ytdnpbhijjmlecaa
open Go.RowKit Go.Maps
set_option maxRecDepth 100000
set_option linter.unusedSimpArgs false
set_option linter.unusedVariables false

theorem read_out {w w' : World} {Z : Nat → Prop} {q : Nat} {x : Gr} {t : Td} {e : Ending} (h : GrM w Z q x) (ht : ToldP (fun b => w.heap.size ≤ b) w' t e) (hb : Below w.heap.size w w') : OutG Z w w' q x t e := by
  have hz : ∀ k, Z k → k < w.heap.size := by obtain ⟨_, _, _, _, _, _, hz⟩ := h; exact hz
  obtain ⟨a, c, h1, h2, h3⟩ := ht
  exact ⟨Z, h.under hb, fun k hk => .inl hk, Keeps.of_below hb, a, c, h1, h2, h3.mono fun b hb2 => ⟨hb2, fun hk => by have := hz b hk; omega⟩⟩
theorem one_any {w : World} {Z : Nat → Prop} {q : Nat} {x : Gr} {N : Nat} (h : GrM w Z q x) (hok : GrOk N x) (hN : N ≤ 1000000) (m : Rc) (hrc : RcOk m) (la : Option Addr) (lc : Nat) (hl : IL w (.slice la m.list.length lc) m.list) (hlz : In (fun k => ¬ Z k) (.slice la m.list.length lc) m.list) :
    Calls Try.prog (oneF m.kind) #[.pointer (some ⟨q, 0, none⟩), recV m (.slice la m.list.length lc)] w fun e w' => OutG Z w w' q (oneI x m).1 (oneI x m).2 e := by
  have hg := hok.gen
  unfold oneF oneI
  by_cases h2 : m.kind = 2
  · simp only [h2, if_true]
    exact leave_any h hok.m1000 (by omega) m la _ lc
  · by_cases h3 : m.kind = 3
    · rw [if_neg h2, if_pos h3, if_neg h2, if_pos h3]
      exact commit_any h hok m hrc la lc hl hlz
    · obtain ⟨vm, vp, vo, hr⟩ := h.read
      by_cases h6 : m.kind = 6
      · rw [if_neg h2, if_neg h3, if_pos h6, if_neg h2, if_neg h3, if_pos h6]
        have e : (syncI x m).1 = x := by unfold syncI; split <;> rfl
        rw [e]
        exact (sync_any hr hok.m1000 hok.id64 m la _ lc).mono (fun e w' hh => read_out h hh.1 hh.2)
      · rw [if_neg h2, if_neg h3, if_neg h6, if_neg h2, if_neg h3, if_neg h6]
        exact (read_any hr m hrc.2.2.2.1 la _ lc).mono (fun e w' hh => read_out h hh.1 hh.2)
theorem ask_end {w w4 w5 N : World} {Z : Nat → Prop} {q b : Nat} {es : List En} {S : Gs} {x : En} (hZq : Z q) (hZb : Z b) (hZe : ∀ e ∈ es, ∀ j, e.own j → Z j) (hZl : ∀ j, Z j → j < w.heap.size)
    (hb4 : Below w.heap.size w w4) (hs4 : w.heap.size + 2 ≤ w4.heap.size) (hA : AllC w4 q b es S) (hx : x ∈ es) (hnm : es.Pairwise fun a b => a.name ≠ b.name) {y : Gr} {t : Td} {e : Ending}
    (ho : OutG x.own w4 w5 x.at_ y t e) (hN : Keeps (fun j => j = w.heap.size + 1) w5 N) : OutA Z w N q { S with gs := setG S.gs x.name y } t e := by
  obtain ⟨Z5, h1, h2, h3, a, c, h4, h5, h6⟩ := ho
  have hT := hA.turn hnm hx h3 h1 h2
  have hs5 := h3.size
  have hqb : q < w.heap.size ∧ b < w.heap.size := ⟨hZl q hZq, hZl b hZb⟩
  have hz5 : ∀ k, Z5 k → k < w5.heap.size := by obtain ⟨_, _, _, _, _, _, hz⟩ := h1; exact hz
  have hmem : ∀ d' ∈ es.map (turnE x Z5 y), ∀ j, d'.own j → (Z j ∨ w4.heap.size ≤ j) ∧ j < w5.heap.size ∧ (w4.heap.size ≤ j → Z5 j) := fun d' hd' j hj => by
    obtain ⟨d, hd, rfl⟩ := List.mem_map.1 hd'
    unfold turnE at hj
    split at hj
    · rcases h2 j hj with g | g
      · exact ⟨.inl (hZe x hx j g), hz5 j hj, fun _ => hj⟩
      · exact ⟨.inr g, hz5 j hj, fun _ => hj⟩
    · have := hZl j (hZe d hd j hj)
      exact ⟨.inl (hZe d hd j hj), by have := hb4.size; omega, fun hh => by omega⟩
  refine ⟨fun j => j = q ∨ j = b ∨ ∃ d' ∈ es.map (turnE x Z5 y), d'.own j, ?_, ?_, ?_, ?_⟩
  · have h9 : AllM w5 (fun j => j = q ∨ j = b ∨ ∃ d' ∈ es.map (turnE x Z5 y), d'.own j) q { S with gs := setG S.gs x.name y } := ⟨b, _, hT, .inl rfl, .inr (.inl rfl), fun d hd j hj => .inr (.inr ⟨d, hd, hj⟩), fun j hj => by
      rcases hj with rfl | rfl | ⟨d, hd, hj⟩
      · exact hT.qlt
      · exact hT.blt
      · exact (hmem d hd j hj).2.1⟩
    refine h9.kept (fun j hj => hN.block j ?_ ?_) hN.size
    · rcases hj with rfl | rfl | ⟨d, hd, hj⟩
      · exact hT.qlt
      · exact hT.blt
      · exact (hmem d hd j hj).2.1
    · rcases hj with rfl | rfl | ⟨d, hd, hj⟩
      · omega
      · omega
      · rcases (hmem d hd j hj).1 with g | g
        · have := hZl j g; omega
        · omega
  · intro j hj
    rcases hj with rfl | rfl | ⟨d, hd, hj⟩
    · exact .inl hZq
    · exact .inl hZb
    · rcases (hmem d hd j hj).1 with g | g
      · exact .inl g
      · exact .inr (by omega)
  · exact ((Keeps.of_below (S := Z) hb4).trans h3 (fun j hj => .inl (hZe x hx j hj))).trans hN (fun j hj => .inr (by omega))
  · refine ⟨a, c, h4, h5.keeps hN (h6.mono (fun j hj => by omega)), h6.mono (fun j hj => ⟨by omega, fun h => ?_⟩)⟩
    rcases h with rfl | rfl | ⟨d, hd, hj2⟩
    · have := hj.1; omega
    · have := hj.1; omega
    · exact hj.2 ((hmem d hd j hj2).2.2 hj.1)
set_option maxHeartbeats 3200000 in
theorem ask_any {w : World} {Z : Nat → Prop} {q : Nat} {S : Gs} {N : Nat} (h : AllM w Z q S) (hok : GsOk N S) (hN : N ≤ 1000000) (m : Rc) (hrc : RcOk m) (hnm : m.name.size ≤ maxLen) (la : Option Addr) (lc : Nat) (hl : IL w (.slice la m.list.length lc) m.list) (hlz : In (fun k => ¬ Z k) (.slice la m.list.length lc) m.list) :
    Calls Try.prog 39 #[.pointer (some ⟨q, 0, none⟩), recV m (.slice la m.list.length lc)] w fun e w' => OutA Z w w' q (askI S m).1 (askI S m).2 e := by
  have hT := tb_new Z w (recA m (.slice la m.list.length lc)) zTd
  have HT := hid hT
  have hbW : Below w.heap.size w ((w.alloc (.cells (recA m (.slice la m.list.length lc)) 32)).alloc (.cells zTd 36)) := (tb_new (fun _ => False) w (recA m (.slice la m.list.length lc)) zTd).k.base
  have HBW := hid hbW
  have HH := hid h
  obtain ⟨b, es, hA, hZq, hZb, hZe, hZl⟩ := h
  have HA := hid (hA.under hbW)
  have HZE := hid hZe
  have HZL := hid hZl
  have HZQ := hid hZq
  have HZB := hid hZb
  have hq := hZl q hZq
  have HL := hid (hl.under hbW)
  have HLZ := hid hlz
  have hlk := (hA.under (hbW.trans (Below.refl _ _).drew)).look_ok m.name hnm
  have hgt := hA.get m.key
  have HNM := hid (names_made hA hok.names)
  have HOK := hid hok
  have HRC := hid hrc
  have c0 := HA.out.c0
  have a0 := cell_blk hT.x 0 _ rfl
  have a1 := cell_blk hT.x 1 _ rfl
  have a2 := cell_blk hT.x 2 _ rfl
  have a3 := cell_blk hT.x 3 _ rfl
  have a4 := cell_blk hT.x 4 _ rfl
  have a5 := cell_blk hT.x 5 _ rfl
  have a6 := cell_blk hT.x 6 _ rfl
  have a7 := cell_blk hT.x 7 _ rfl
  have z0 := cell_blk hT.z 0 _ rfl
  have z1 := cell_blk hT.z 1 _ rfl
  have z2 := cell_blk hT.z 2 _ rfl
  have z3 := cell_blk hT.z 3 _ rfl
  have z4 := cell_blk hT.z 4 _ rfl
  have fz := frz_blk hT.z
  unfold ptrE at hlk
  change getG S.gs m.key = (findE es m.name.data.toList).map (·.g) at hgt
  unfold recV recA zTd at *
  clear hT hbW hA hZe hZl hl hlz hok hrc hZq hZb
  cases hfd : findE es m.name.data.toList with
  | none =>
    rw [hfd] at hlk hgt
    simp only [Option.isSome_none] at hlk
    have HAI : Hid (askI S m = (S, errT 8)) := by show _ = _; unfold askI; rw [hgt]; rfl
    rw [HAI.out]
    clear hfd hgt HAI
    go_enter Try.func39, Try.ntmps39
    go_wp2_with fail
    generalize (w.alloc (.cells #[.int .i64 m.kind, .int .i64 m.a, .int .i64 m.b, .int .i64 m.c, .int .i64 m.d, .string m.name, .string m.text, .slice la m.list.length lc] 32)).alloc (.cells #[.int .i64 0, .int .i64 0, .int .i64 0, .int .i64 0, .slice none 0 0] 36) = W at *
    go_region_held3 (fun V => V.cell? ⟨q, 0, none⟩ = some (.map (some b)) ∧ V.cell? ⟨w.heap.size, 5, none⟩ = some (.string m.name)) (go_keep) (fail)
    go_wp2_with fail
    clear a0 a1 a2 a3 a4 a5 a6 a7 z0 z1 z2 z3 z4 fz c0 hlk
    have HT5 := hid ((HT.out).five rfl (.int .i64 8) (.int .i64 0) (.int .i64 0) (.int .i64 0) (.slice none 0 0))
    have HK5 := hid (five_keeps (W) (w.heap.size + 1) (.int .i64 8) (.int .i64 0) (.int .i64 0) (.int .i64 0) (.slice none 0 0))
    unfold five at HT5 HK5
    generalize ((((W.setCell ⟨w.heap.size + 1, 0, none⟩ (.int .i64 8)).setCell ⟨w.heap.size + 1, 1, none⟩ (.int .i64 0)).setCell ⟨w.heap.size + 1, 2, none⟩ (.int .i64 0)).setCell ⟨w.heap.size + 1, 3, none⟩ (.int .i64 0)).setCell ⟨w.heap.size + 1, 4, none⟩ (.slice none 0 0) = N5 at *
    have r0 := cell_blk HT5.out.z 0 _ rfl
    have r1 := cell_blk HT5.out.z 1 _ rfl
    have r2 := cell_blk HT5.out.z 2 _ rfl
    have r3 := cell_blk HT5.out.z 3 _ rfl
    have r4 := cell_blk HT5.out.z 4 _ rfl
    exact bodyPost_ret (v := .agg #[.int .i64 8, .int .i64 0, .int .i64 0, .int .i64 0, .slice none 0 0]) (by simp [results, Try.results39, go_sem, r0, r1, r2, r3, r4]) rfl (⟨Z, ((HH.out.under HBW.out).kept (fun k hk => HK5.out.block k (by have := HZL.out k hk; have := HT.out.s; omega) (fun e => by have := HZL.out k hk; omega)) HK5.out.size).under (Below.refl _ _).drew, fun k hk => .inl hk, HT5.out.k.drew, told_nil⟩)
  | some x =>
    rw [hfd] at hlk hgt
    simp only [Option.isSome_some] at hlk
    unfold ptr at hlk
    obtain ⟨hx, hxn⟩ := findE_mem hfd
    have HX := hid hx
    have HXN : Hid (x.name = m.key) := hxn
    have HAI : Hid (askI S m = ({ S with gs := setG S.gs m.key (oneI x.g m).1 }, (oneI x.g m).2)) := by show _ = _; unfold askI; rw [hgt]; rfl
    rw [HAI.out]
    have HGO : Hid (GrOk N x.g) := by
      have := foundOk HOK.out m.key
      unfold foundG at this
      rw [hgt] at this
      exact this
    have HGM := hid (HA.out.each x hx).1
    have HONE : Hid (∀ V, Below ((w.alloc (.cells (recA m (.slice la m.list.length lc)) 32)).alloc (.cells zTd 36)).heap.size ((w.alloc (.cells (recA m (.slice la m.list.length lc)) 32)).alloc (.cells zTd 36)) V → Calls Try.prog (oneF m.kind) #[.pointer (some ⟨x.at_, 0, none⟩), recV m (.slice la m.list.length lc)] V fun e w' => OutG x.own V w' x.at_ (oneI x.g m).1 (oneI x.g m).2 e) := fun V hV => one_any (HGM.out.under hV) HGO.out hN m HRC.out la lc (HL.out.under hV) (HLZ.out.mono fun j hj ho => hj (HZE.out x hx j ho))
    have HKD := hid (fun V => oneKind_any m.kind V)
    unfold recV recA zTd at *
    have HNF : Hid (oneF m.kind = 60 ∨ oneF m.kind = 61 ∨ oneF m.kind = 62 ∨ oneF m.kind = 63) := by
      show _ ∨ _
      unfold oneF
      by_cases k2 : m.kind = 2
      · exact .inl (by rw [if_pos k2])
      · by_cases k3 : m.kind = 3
        · exact .inr (.inl (by rw [if_neg k2, if_pos k3]))
        · by_cases k6 : m.kind = 6
          · exact .inr (.inr (.inl (by rw [if_neg k2, if_neg k3, if_pos k6])))
          · exact .inr (.inr (.inr (by rw [if_neg k2, if_neg k3, if_neg k6])))
    generalize oneF m.kind = nF at *
    clear hfd hgt HAI hx hxn
    go_enter Try.func39, Try.ntmps39
    go_wp2_with fail
    generalize (w.alloc (.cells #[.int .i64 m.kind, .int .i64 m.a, .int .i64 m.b, .int .i64 m.c, .int .i64 m.d, .string m.name, .string m.text, .slice la m.list.length lc] 32)).alloc (.cells #[.int .i64 0, .int .i64 0, .int .i64 0, .int .i64 0, .slice none 0 0] 36) = W at *
    go_region_held3 (fun V => V.cell? ⟨q, 0, none⟩ = some (.map (some b)) ∧ V.cell? ⟨w.heap.size, 5, none⟩ = some (.string m.name)) (go_keep) (fail)
    go_wp2_with fail
    refine (HKD.out _).mono ?_
    rintro e w2 ⟨rfl, rfl⟩
    rcases HNF.out with rfl | rfl | rfl | rfl
    all_goals
      go_wp2_with fail
      refine (HONE.out _ (Below.refl _ _).drew).mono ?_
      rintro e w5 hog
      have HOG := hid hog
      obtain ⟨Z5, g1, g2, g3, ga, gc, rfl, g5, g6⟩ := hog
      have hxz : ∀ j, x.own j → j < w.heap.size := fun j hj => HZL.out j (HZE.out x HX.out j hj)
      have ht5 := (HT.out.under (Below.refl _ _).drew).next g3 (fun j hj => .inl (HZE.out x HX.out j hj)) (fun hj => by have := hxz _ hj; omega) (fun hj => by have := hxz _ hj; omega)
      clear a0 a1 a2 a3 a4 a5 a6 a7 z0 z1 z2 z3 z4 fz c0 hlk
      have z0 := cell_blk ht5.z 0 _ rfl
      have z1 := cell_blk ht5.z 1 _ rfl
      have z2 := cell_blk ht5.z 2 _ rfl
      have z3 := cell_blk ht5.z 3 _ rfl
      have z4 := cell_blk ht5.z 4 _ rfl
      have fz := frz_blk ht5.z
      have HT5a := hid ht5
      clear g1 g2 g3 g5 g6 ht5
      generalize hY : (oneI x.g m).1 = Y at *
      generalize hT2 : (oneI x.g m).2 = T at *
      have HYE := hid hY
      have HTE := hid hT2
      clear hY hT2
      obtain ⟨te, tm, tg, tof, tp⟩ := T
      go_wp2_with fail
      clear z0 z1 z2 z3 z4 fz
      have HT5 := hid ((HT5a.out).five rfl (.int .i64 te) (.int .i64 tm) (.int .i64 tg) (.int .i64 tof) (.slice ga tp.length gc))
      have HK5 := hid (five_keeps (w5) (w.heap.size + 1) (.int .i64 te) (.int .i64 tm) (.int .i64 tg) (.int .i64 tof) (.slice ga tp.length gc))
      unfold five at HT5 HK5
      generalize ((((w5.setCell ⟨w.heap.size + 1, 0, none⟩ (.int .i64 te)).setCell ⟨w.heap.size + 1, 1, none⟩ (.int .i64 tm)).setCell ⟨w.heap.size + 1, 2, none⟩ (.int .i64 tg)).setCell ⟨w.heap.size + 1, 3, none⟩ (.int .i64 tof)).setCell ⟨w.heap.size + 1, 4, none⟩ (.slice ga tp.length gc) = N5 at *
      have r0 := cell_blk HT5.out.z 0 _ rfl
      have r1 := cell_blk HT5.out.z 1 _ rfl
      have r2 := cell_blk HT5.out.z 2 _ rfl
      have r3 := cell_blk HT5.out.z 3 _ rfl
      have r4 := cell_blk HT5.out.z 4 _ rfl
      exact bodyPost_ret (v := .agg #[.int .i64 te, .int .i64 tm, .int .i64 tg, .int .i64 tof, .slice ga tp.length gc]) (by simp [results, Try.results39, go_sem, r0, r1, r2, r3, r4]) rfl (by
        have hend := ask_end HZQ.out HZB.out HZE.out HZL.out (HBW.out.trans ((Below.refl _ _).drew.mono HBW.out.size)) (by have := HT.out.s; exact this) (HA.out.under (Below.refl _ _).drew) HX.out HNM.out HOG.out HK5.out
        rw [HXN.out] at hend
        rw [HYE.out, HTE.out]
        exact hend)
end Go.Proofs.Ytdnpbhijjmlecaa
