/- What is asked of one group. -/
import Derived.Test.YtdnpbhijjmlecaaZ5
import Derived.Test.YtdnpbhijjmlecaaZ2
import Derived.Deep.CutRange
import Derived.Deep.CutBlock
namespace Go.Proofs.Ytdnpbhijjmlecaa
open Go.RowKit Go.Maps
set_option maxRecDepth 100000
set_option linter.unusedSimpArgs false
set_option linter.unusedVariables false

theorem read_out {w w' : World} {Z : Nat → Prop} {q : Nat} {x : Gr} {t : Td} {e : Ending} (h : GrM w Z q x) (ht : ToldP (fun b => w.heap.size ≤ b) w' t e) (hb : Below w.heap.size w w') : OutG Z w w' q x t e := by
  have hz : ∀ k, Z k → k < w.heap.size := by obtain ⟨_, _, _, _, _, _, hz⟩ := h; exact hz
  obtain ⟨a, c, h1, h2, h3⟩ := ht
  exact ⟨Z, h.under hb, fun k hk => .inl hk, Keeps.of_below hb, a, c, h1, h2, h3.mono fun b hb2 => ⟨hb2, fun hk => by have := hz b hk; omega⟩⟩
theorem one_any {w : World} {Z : Nat → Prop} {q : Nat} {x : Gr} {N : Nat} (h : GrM w Z q x) (hok : GrOk N x) (hN : N ≤ 1000000) (m : Rc) (hrc : RcOk m) (la : Option Addr) (lc : Nat) (hl : IL w (.slice la m.list.length lc) m.list) (hlz : In (fun k => ¬ Z k) (.slice la m.list.length lc) m.list) :
    Calls Try.prog (oneF m.kind) #[.pointer (some ⟨q, 0, none⟩), recV m (.slice la m.list.length lc)] w fun e w' => OutG Z w w' q (oneI x m).1 (oneI x m).2 e := by
  have hg := hok.gen
  unfold oneF oneI
  by_cases h2 : m.kind = 2
  · simp only [h2, if_true]
    exact leave_any h hok.m1000 (by omega) m la _ lc
  · by_cases h3 : m.kind = 3
    · rw [if_neg h2, if_pos h3, if_neg h2, if_pos h3]
      exact commit_any h hok m hrc la lc hl hlz
    · obtain ⟨vm, vp, vo, hr⟩ := h.read
      by_cases h6 : m.kind = 6
      · rw [if_neg h2, if_neg h3, if_pos h6, if_neg h2, if_neg h3, if_pos h6]
        have e : (syncI x m).1 = x := by unfold syncI; split <;> rfl
        rw [e]
        exact (sync_any hr hok.m1000 hok.id64 m la _ lc).mono (fun e w' hh => read_out h hh.1 hh.2)
      · rw [if_neg h2, if_neg h3, if_neg h6, if_neg h2, if_neg h3, if_neg h6]
        exact (read_any hr m hrc.2.2.2.1 la _ lc).mono (fun e w' hh => read_out h hh.1 hh.2)
theorem ask_end {w w4 w5 N : World} {Z : Nat → Prop} {q b : Nat} {es : List En} {S : Gs} {x : En} (hZq : Z q) (hZb : Z b) (hZe : ∀ e ∈ es, ∀ j, e.own j → Z j) (hZl : ∀ j, Z j → j < w.heap.size)
    (hb4 : Below w.heap.size w w4) (hs4 : w.heap.size + 2 ≤ w4.heap.size) (hA : AllC w4 q b es S) (hx : x ∈ es) (hnm : es.Pairwise fun a b => a.name ≠ b.name) {y : Gr} {t : Td} {e : Ending}
    (ho : OutG x.own w4 w5 x.at_ y t e) (hN : Keeps (fun j => j = w.heap.size + 1) w5 N) : OutA Z w N q { S with gs := setG S.gs x.name y } t e := by
  obtain ⟨Z5, h1, h2, h3, a, c, h4, h5, h6⟩ := ho
  have hT := hA.turn hnm hx h3 h1 h2
  have hs5 := h3.size
  have hqb : q < w.heap.size ∧ b < w.heap.size := ⟨hZl q hZq, hZl b hZb⟩
  have hz5 : ∀ k, Z5 k → k < w5.heap.size := by obtain ⟨_, _, _, _, _, _, hz⟩ := h1; exact hz
  have hmem : ∀ d' ∈ es.map (turnE x Z5 y), ∀ j, d'.own j → (Z j ∨ w4.heap.size ≤ j) ∧ j < w5.heap.size ∧ (w4.heap.size ≤ j → Z5 j) := fun d' hd' j hj => by
    obtain ⟨d, hd, rfl⟩ := List.mem_map.1 hd'
    unfold turnE at hj
    split at hj
    · rcases h2 j hj with g | g
      · exact ⟨.inl (hZe x hx j g), hz5 j hj, fun _ => hj⟩
      · exact ⟨.inr g, hz5 j hj, fun _ => hj⟩
    · have := hZl j (hZe d hd j hj)
      exact ⟨.inl (hZe d hd j hj), by have := hb4.size; omega, fun hh => by omega⟩
  refine ⟨fun j => j = q ∨ j = b ∨ ∃ d' ∈ es.map (turnE x Z5 y), d'.own j, ?_, ?_, ?_, ?_⟩
  · have h9 : AllM w5 (fun j => j = q ∨ j = b ∨ ∃ d' ∈ es.map (turnE x Z5 y), d'.own j) q { S with gs := setG S.gs x.name y } := ⟨b, _, hT, .inl rfl, .inr (.inl rfl), fun d hd j hj => .inr (.inr ⟨d, hd, hj⟩), fun j hj => by
      rcases hj with rfl | rfl | ⟨d, hd, hj⟩
      · exact hT.qlt
      · exact hT.blt
      · exact (hmem d hd j hj).2.1⟩
    refine h9.kept (fun j hj => hN.block j ?_ ?_) hN.size
    · rcases hj with rfl | rfl | ⟨d, hd, hj⟩
      · exact hT.qlt
      · exact hT.blt
      · exact (hmem d hd j hj).2.1
    · rcases hj with rfl | rfl | ⟨d, hd, hj⟩
      · omega
      · omega
      · rcases (hmem d hd j hj).1 with g | g
        · have := hZl j g; omega
        · omega
  · intro j hj
    rcases hj with rfl | rfl | ⟨d, hd, hj⟩
    · exact .inl hZq
    · exact .inl hZb
    · rcases (hmem d hd j hj).1 with g | g
      · exact .inl g
      · exact .inr (by omega)
  · exact ((Keeps.of_below (S := Z) hb4).trans h3 (fun j hj => .inl (hZe x hx j hj))).trans hN (fun j hj => .inr (by omega))
  · refine ⟨a, c, h4, h5.keeps hN (h6.mono (fun j hj => by omega)), h6.mono (fun j hj => ⟨by omega, fun h => ?_⟩)⟩
    rcases h with rfl | rfl | ⟨d, hd, hj2⟩
    · have := hj.1; omega
    · have := hj.1; omega
    · exact hj.2 ((hmem d hd j hj2).2.2 hj.1)
set_option maxHeartbeats 3200000 in
theorem ask_any {w : World} {Z : Nat → Prop} {q : Nat} {S : Gs} {N : Nat} (h : AllM w Z q S) (hok : GsOk N S) (hN : N ≤ 1000000) (m : Rc) (hrc : RcOk m) (hnm : m.name.size ≤ maxLen) (la : Option Addr) (lc : Nat) (hl : IL w (.slice la m.list.length lc) m.list) (hlz : In (fun k => ¬ Z k) (.slice la m.list.length lc) m.list) :
    Calls Try.prog 39 #[.pointer (some ⟨q, 0, none⟩), recV m (.slice la m.list.length lc)] w fun e w' => OutA Z w w' q (askI S m).1 (askI S m).2 e := by
  have hT := tb_new Z w (recA m (.slice la m.list.length lc)) zTd
  have HT := hid hT
  have hbW : Below w.heap.size w ((w.alloc (.cells (recA m (.slice la m.list.length lc)) 32)).alloc (.cells zTd 36)) := (tb_new (fun _ => False) w (recA m (.slice la m.list.length lc)) zTd).k.base
  have HBW := hid hbW
  have HH := hid h
  obtain ⟨b, es, hA, hZq, hZb, hZe, hZl⟩ := h
  have HA := hid (hA.under hbW)
  have HZE := hid hZe
  have HZL := hid hZl
  have HZQ := hid hZq
  have HZB := hid hZb
  have hq := hZl q hZq
  have HL := hid (hl.under hbW)
  have HLZ := hid hlz
  have hlk := (hA.under (hbW.trans (Below.refl _ _).drew)).look_ok m.name hnm
  have hgt := hA.get m.key
  have HNM := hid (names_made hA hok.names)
  have HOK := hid hok
  have HRC := hid hrc
  have c0 := HA.out.c0
  have a0 := cell_blk hT.x 0 _ rfl
  have a1 := cell_blk hT.x 1 _ rfl
  have a2 := cell_blk hT.x 2 _ rfl
  have a3 := cell_blk hT.x 3 _ rfl
  have a4 := cell_blk hT.x 4 _ rfl
  have a5 := cell_blk hT.x 5 _ rfl
  have a6 := cell_blk hT.x 6 _ rfl
  have a7 := cell_blk hT.x 7 _ rfl
  have z0 := cell_blk hT.z 0 _ rfl
  have z1 := cell_blk hT.z 1 _ rfl
  have z2 := cell_blk hT.z 2 _ rfl
  have z3 := cell_blk hT.z 3 _ rfl
  have z4 := cell_blk hT.z 4 _ rfl
  have fz := frz_blk hT.z
  unfold ptrE at hlk
  change getG S.gs m.key = (findE es m.name.data.toList).map (·.g) at hgt
  unfold recV recA zTd at *
  clear hT hbW hA hZe hZl hl hlz hok hrc hZq hZb
  cases hfd : findE es m.name.data.toList with
  | none =>
    rw [hfd] at hlk hgt
    simp only [Option.isSome_none] at hlk
    have HAI : Hid (askI S m = (S, errT 8)) := by show _ = _; unfold askI; rw [hgt]; rfl
    rw [HAI.out]
    clear hfd hgt HAI
    go_enter Try.func39, Try.ntmps39
    go_wp2_with fail
    generalize (w.alloc (.cells #[.int .i64 m.kind, .int .i64 m.a, .int .i64 m.b, .int .i64 m.c, .int .i64 m.d, .string m.name, .string m.text, .slice la m.list.length lc] 32)).alloc (.cells #[.int .i64 0, .int .i64 0, .int .i64 0, .int .i64 0, .slice none 0 0] 36) = W at *
    go_region_held3 (fun V => V.cell? ⟨q, 0, none⟩ = some (.map (some b)) ∧ V.cell? ⟨w.heap.size, 5, none⟩ = some (.string m.name)) (go_keep) (fail)
    go_wp2_with fail
    clear a0 a1 a2 a3 a4 a5 a6 a7 z0 z1 z2 z3 z4 fz c0 hlk
    have HT5 := hid ((HT.out).five rfl (.int .i64 8) (.int .i64 0) (.int .i64 0) (.int .i64 0) (.slice none 0 0))
    have HK5 := hid (five_keeps (W) (w.heap.size + 1) (.int .i64 8) (.int .i64 0) (.int .i64 0) (.int .i64 0) (.slice none 0 0))
    unfold five at HT5 HK5
    generalize ((((W.setCell ⟨w.heap.size + 1, 0, none⟩ (.int .i64 8)).setCell ⟨w.heap.size + 1, 1, none⟩ (.int .i64 0)).setCell ⟨w.heap.size + 1, 2, none⟩ (.int .i64 0)).setCell ⟨w.heap.size + 1, 3, none⟩ (.int .i64 0)).setCell ⟨w.heap.size + 1, 4, none⟩ (.slice none 0 0) = N5 at *
    have r0 := cell_blk HT5.out.z 0 _ rfl
    have r1 := cell_blk HT5.out.z 1 _ rfl
    have r2 := cell_blk HT5.out.z 2 _ rfl
    have r3 := cell_blk HT5.out.z 3 _ rfl
    have r4 := cell_blk HT5.out.z 4 _ rfl
    exact bodyPost_ret (v := .agg #[.int .i64 8, .int .i64 0, .int .i64 0, .int .i64 0, .slice none 0 0]) (by simp [results, Try.results39, go_sem, r0, r1, r2, r3, r4]) rfl (⟨Z, ((HH.out.under HBW.out).kept (fun k hk => HK5.out.block k (by have := HZL.out k hk; have := HT.out.s; omega) (fun e => by have := HZL.out k hk; omega)) HK5.out.size).under (Below.refl _ _).drew, fun k hk => .inl hk, HT5.out.k.drew, told_nil⟩)
  | some x =>
    rw [hfd] at hlk hgt
    simp only [Option.isSome_some] at hlk
    unfold ptr at hlk
    obtain ⟨hx, hxn⟩ := findE_mem hfd
    have HX := hid hx
    have HXN : Hid (x.name = m.key) := hxn
    have HAI : Hid (askI S m = ({ S with gs := setG S.gs m.key (oneI x.g m).1 }, (oneI x.g m).2)) := by show _ = _; unfold askI; rw [hgt]; rfl
    rw [HAI.out]
    have HGO : Hid (GrOk N x.g) := by
      have := foundOk HOK.out m.key
      unfold foundG at this
      rw [hgt] at this
      exact this
    have HGM := hid (HA.out.each x hx).1
    have HONE : Hid (∀ V, Below ((w.alloc (.cells (recA m (.slice la m.list.length lc)) 32)).alloc (.cells zTd 36)).heap.size ((w.alloc (.cells (recA m (.slice la m.list.length lc)) 32)).alloc (.cells zTd 36)) V → Calls Try.prog (oneF m.kind) #[.pointer (some ⟨x.at_, 0, none⟩), recV m (.slice la m.list.length lc)] V fun e w' => OutG x.own V w' x.at_ (oneI x.g m).1 (oneI x.g m).2 e) := fun V hV => one_any (HGM.out.under hV) HGO.out hN m HRC.out la lc (HL.out.under hV) (HLZ.out.mono fun j hj ho => hj (HZE.out x hx j ho))
    have HKD := hid (fun V => oneKind_any m.kind V)
    unfold recV recA zTd at *
    have HNF : Hid (oneF m.kind = 60 ∨ oneF m.kind = 61 ∨ oneF m.kind = 62 ∨ oneF m.kind = 63) := by
      show _ ∨ _
      unfold oneF
      by_cases k2 : m.kind = 2
      · exact .inl (by rw [if_pos k2])
      · by_cases k3 : m.kind = 3
        · exact .inr (.inl (by rw [if_neg k2, if_pos k3]))
        · by_cases k6 : m.kind = 6
          · exact .inr (.inr (.inl (by rw [if_neg k2, if_neg k3, if_pos k6])))
          · exact .inr (.inr (.inr (by rw [if_neg k2, if_neg k3, if_neg k6])))
    generalize oneF m.kind = nF at *
    clear hfd hgt HAI hx hxn
    go_enter Try.func39, Try.ntmps39
    go_wp2_with fail
    generalize (w.alloc (.cells #[.int .i64 m.kind, .int .i64 m.a, .int .i64 m.b, .int .i64 m.c, .int .i64 m.d, .string m.name, .string m.text, .slice la m.list.length lc] 32)).alloc (.cells #[.int .i64 0, .int .i64 0, .int .i64 0, .int .i64 0, .slice none 0 0] 36) = W at *
    go_region_held3 (fun V => V.cell? ⟨q, 0, none⟩ = some (.map (some b)) ∧ V.cell? ⟨w.heap.size, 5, none⟩ = some (.string m.name)) (go_keep) (fail)
    go_wp2_with fail
    refine (HKD.out _).mono ?_
    rintro e w2 ⟨rfl, rfl⟩
    rcases HNF.out with rfl | rfl | rfl | rfl
    all_goals
      go_wp2_with fail
      refine (HONE.out _ (Below.refl _ _).drew).mono ?_
      rintro e w5 hog
      have HOG := hid hog
      obtain ⟨Z5, g1, g2, g3, ga, gc, rfl, g5, g6⟩ := hog
      have hxz : ∀ j, x.own j → j < w.heap.size := fun j hj => HZL.out j (HZE.out x HX.out j hj)
      have ht5 := (HT.out.under (Below.refl _ _).drew).next g3 (fun j hj => .inl (HZE.out x HX.out j hj)) (fun hj => by have := hxz _ hj; omega) (fun hj => by have := hxz _ hj; omega)
      clear a0 a1 a2 a3 a4 a5 a6 a7 z0 z1 z2 z3 z4 fz c0 hlk
      have z0 := cell_blk ht5.z 0 _ rfl
      have z1 := cell_blk ht5.z 1 _ rfl
      have z2 := cell_blk ht5.z 2 _ rfl
      have z3 := cell_blk ht5.z 3 _ rfl
      have z4 := cell_blk ht5.z 4 _ rfl
      have fz := frz_blk ht5.z
      have HT5a := hid ht5
      clear g1 g2 g3 g5 g6 ht5
      generalize hY : (oneI x.g m).1 = Y at *
      generalize hT2 : (oneI x.g m).2 = T at *
      have HYE := hid hY
      have HTE := hid hT2
      clear hY hT2
      obtain ⟨te, tm, tg, tof, tp⟩ := T
      go_wp2_with fail
      clear z0 z1 z2 z3 z4 fz
      have HT5 := hid ((HT5a.out).five rfl (.int .i64 te) (.int .i64 tm) (.int .i64 tg) (.int .i64 tof) (.slice ga tp.length gc))
      have HK5 := hid (five_keeps (w5) (w.heap.size + 1) (.int .i64 te) (.int .i64 tm) (.int .i64 tg) (.int .i64 tof) (.slice ga tp.length gc))
      unfold five at HT5 HK5
      generalize ((((w5.setCell ⟨w.heap.size + 1, 0, none⟩ (.int .i64 te)).setCell ⟨w.heap.size + 1, 1, none⟩ (.int .i64 tm)).setCell ⟨w.heap.size + 1, 2, none⟩ (.int .i64 tg)).setCell ⟨w.heap.size + 1, 3, none⟩ (.int .i64 tof)).setCell ⟨w.heap.size + 1, 4, none⟩ (.slice ga tp.length gc) = N5 at *
      have r0 := cell_blk HT5.out.z 0 _ rfl
      have r1 := cell_blk HT5.out.z 1 _ rfl
      have r2 := cell_blk HT5.out.z 2 _ rfl
      have r3 := cell_blk HT5.out.z 3 _ rfl
      have r4 := cell_blk HT5.out.z 4 _ rfl
      exact bodyPost_ret (v := .agg #[.int .i64 te, .int .i64 tm, .int .i64 tg, .int .i64 tof, .slice ga tp.length gc]) (by simp [results, Try.results39, go_sem, r0, r1, r2, r3, r4]) rfl (by
        have hend := ask_end HZQ.out HZB.out HZE.out HZL.out (HBW.out.trans ((Below.refl _ _).drew.mono HBW.out.size)) (by have := HT.out.s; exact this) (HA.out.under (Below.refl _ _).drew) HX.out HNM.out HOG.out HK5.out
        rw [HXN.out] at hend
        rw [HYE.out, HTE.out]
        exact hend)
end Go.Proofs.Ytdnpbhijjmlecaa

/- Apply. -/
namespace Go.Proofs.Ytdnpbhijjmlecaa
open Go.RowKit Go.Maps
set_option maxRecDepth 100000
set_option linter.unusedSimpArgs false
set_option linter.unusedVariables false

theorem app_end {w V w5 N : World} {Z : Nat → Prop} {q : Nat} {S : Gs} (hZl : ∀ j, Z j → j < w.heap.size) (hb : Below w.heap.size w V) (hs : w.heap.size + 2 ≤ V.heap.size) {t : Td} {e : Ending} (ho : OutA Z V w5 q S t e) (hN : Keeps (fun j => j = w.heap.size + 1) w5 N) : OutA Z w N q S t e := by
  obtain ⟨Z5, h1, h2, h3, a, c, h4, h5, h6⟩ := ho
  have hz5 := h1.z
  have hny : ∀ j, Z5 j → j ≠ w.heap.size + 1 := fun j hj => by
    rcases h2 j hj with g | g
    · have := hZl j g; omega
    · omega
  refine ⟨Z5, h1.kept (fun j hj => hN.block j (hz5 j hj) (hny j hj)) hN.size, fun j hj => (h2 j hj).elim .inl (fun g => .inr (by omega)), ((Keeps.of_below (S := Z) hb).trans h3 (fun _ k => .inl k)).trans hN (fun j hj => .inr (by omega)), a, c, h4, h5.keeps hN (h6.mono (fun j hj => by omega)), h6.mono (fun j hj => ⟨by omega, hj.2⟩)⟩
theorem does_any {w : World} {Z : Nat → Prop} {q : Nat} {S : Gs} {N : Nat} (h : AllM w Z q S) (hok : GsOk N S) (hN : N ≤ 1000000) (m : Rc) (hrc : RcOk m) (hnm : m.name.size ≤ maxLen) (la : Option Addr) (lc : Nat) (hl : IL w (.slice la m.list.length lc) m.list) (hlz : In (fun k => ¬ Z k) (.slice la m.list.length lc) m.list) :
    Calls Try.prog (kindF m.kind) #[.pointer (some ⟨q, 0, none⟩), recV m (.slice la m.list.length lc)] w fun e w' => OutA Z w w' q (applyI S m).1 (applyI S m).2 e := by
  unfold kindF applyI
  by_cases h1 : m.kind = 1
  · simp only [h1, if_true]
    exact join_any h hok hN m hrc hnm la lc hl hlz
  · by_cases h2 : m.kind = 2 ∨ m.kind = 3 ∨ m.kind = 4 ∨ m.kind = 6
    · rw [if_neg h1, if_pos h2, if_neg h1, if_pos h2]
      exact ask_any h hok hN m hrc hnm la lc hl hlz
    · by_cases h5 : m.kind = 5
      · rw [if_neg h1, if_neg h2, if_pos h5, if_neg h1, if_neg h2, if_pos h5]
        exact begin_any h m hrc hok.epoch la _ lc
      · rw [if_neg h1, if_neg h2, if_neg h5, if_neg h1, if_neg h2, if_neg h5]
        exact refuse_any h m la _ lc
set_option maxHeartbeats 3200000 in
theorem apply_any {w : World} {Z : Nat → Prop} {q : Nat} {S : Gs} {N : Nat} (h : AllM w Z q S) (hok : GsOk N S) (hN : N ≤ 1000000) (m : Rc) (hrc : RcOk m) (hnm : m.name.size ≤ maxLen) (la : Option Addr) (lc : Nat) (hl : IL w (.slice la m.list.length lc) m.list) (hlz : In (fun k => ¬ Z k) (.slice la m.list.length lc) m.list) :
    Calls Try.prog 12 #[.pointer (some ⟨q, 0, none⟩), recV m (.slice la m.list.length lc)] w fun e w' => OutA Z w w' q (applyI S m).1 (applyI S m).2 e := by
  have hT := tb_new Z w (recA m (.slice la m.list.length lc)) zTd
  have HT := hid hT
  have hbW : Below w.heap.size w ((w.alloc (.cells (recA m (.slice la m.list.length lc)) 32)).alloc (.cells zTd 36)) := (tb_new (fun _ => False) w (recA m (.slice la m.list.length lc)) zTd).k.base
  have HBW := hid hbW
  have HZL := hid h.z
  have HDO := hid (does_any (h.under hbW) hok hN m hrc hnm la lc (hl.under hbW) hlz)
  have HKD := hid (fun V => kind_any m.kind V)
  have a0 := cell_blk hT.x 0 _ rfl
  have a1 := cell_blk hT.x 1 _ rfl
  have a2 := cell_blk hT.x 2 _ rfl
  have a3 := cell_blk hT.x 3 _ rfl
  have a4 := cell_blk hT.x 4 _ rfl
  have a5 := cell_blk hT.x 5 _ rfl
  have a6 := cell_blk hT.x 6 _ rfl
  have a7 := cell_blk hT.x 7 _ rfl
  have HNF : Hid (kindF m.kind = 38 ∨ kindF m.kind = 39 ∨ kindF m.kind = 40 ∨ kindF m.kind = 41) := by
    show _ ∨ _
    unfold kindF
    by_cases k1 : m.kind = 1
    · exact .inl (by rw [if_pos k1])
    · by_cases k2 : m.kind = 2 ∨ m.kind = 3 ∨ m.kind = 4 ∨ m.kind = 6
      · exact .inr (.inl (by rw [if_neg k1, if_pos k2]))
      · by_cases k5 : m.kind = 5
        · exact .inr (.inr (.inl (by rw [if_neg k1, if_neg k2, if_pos k5])))
        · exact .inr (.inr (.inr (by rw [if_neg k1, if_neg k2, if_neg k5])))
  unfold recV recA zTd at *
  generalize kindF m.kind = nF at *
  clear hT hbW h hl hlz hok hrc
  go_enter Try.func12, Try.ntmps12
  go_wp2_with fail
  generalize (w.alloc (.cells #[.int .i64 m.kind, .int .i64 m.a, .int .i64 m.b, .int .i64 m.c, .int .i64 m.d, .string m.name, .string m.text, .slice la m.list.length lc] 32)).alloc (.cells #[.int .i64 0, .int .i64 0, .int .i64 0, .int .i64 0, .slice none 0 0] 36) = W at *
  refine (HKD.out _).mono ?_
  rintro e w2 ⟨rfl, rfl⟩
  rcases HNF.out with rfl | rfl | rfl | rfl
  all_goals
    go_wp2_with fail
    refine HDO.out.mono ?_
    rintro e w5 hog
    have HOG := hid hog
    obtain ⟨Z5, g1, g2, g3, ga, gc, rfl, g5, g6⟩ := hog
    have ht5 := HT.out.next g3 (fun j hj => .inl hj) (fun hj => by have := HZL.out _ hj; omega) (fun hj => by have := HZL.out _ hj; omega)
    clear a0 a1 a2 a3 a4 a5 a6 a7
    have z0 := cell_blk ht5.z 0 _ rfl
    have z1 := cell_blk ht5.z 1 _ rfl
    have z2 := cell_blk ht5.z 2 _ rfl
    have z3 := cell_blk ht5.z 3 _ rfl
    have z4 := cell_blk ht5.z 4 _ rfl
    have fz := frz_blk ht5.z
    have HT5a := hid ht5
    clear g1 g2 g3 g5 g6 ht5
    generalize hY : (applyI S m).1 = Y at *
    generalize hT2 : (applyI S m).2 = T at *
    have HYE := hid hY
    have HTE := hid hT2
    clear hY hT2
    obtain ⟨te, tm, tg, tof, tp⟩ := T
    go_wp2_with fail
    clear z0 z1 z2 z3 z4 fz
    have HT5 := hid ((HT5a.out).five rfl (.int .i64 te) (.int .i64 tm) (.int .i64 tg) (.int .i64 tof) (.slice ga tp.length gc))
    have HK5 := hid (five_keeps (w5) (w.heap.size + 1) (.int .i64 te) (.int .i64 tm) (.int .i64 tg) (.int .i64 tof) (.slice ga tp.length gc))
    unfold five at HT5 HK5
    generalize ((((w5.setCell ⟨w.heap.size + 1, 0, none⟩ (.int .i64 te)).setCell ⟨w.heap.size + 1, 1, none⟩ (.int .i64 tm)).setCell ⟨w.heap.size + 1, 2, none⟩ (.int .i64 tg)).setCell ⟨w.heap.size + 1, 3, none⟩ (.int .i64 tof)).setCell ⟨w.heap.size + 1, 4, none⟩ (.slice ga tp.length gc) = N5 at *
    have r0 := cell_blk HT5.out.z 0 _ rfl
    have r1 := cell_blk HT5.out.z 1 _ rfl
    have r2 := cell_blk HT5.out.z 2 _ rfl
    have r3 := cell_blk HT5.out.z 3 _ rfl
    have r4 := cell_blk HT5.out.z 4 _ rfl
    exact bodyPost_ret (v := .agg #[.int .i64 te, .int .i64 tm, .int .i64 tg, .int .i64 tof, .slice ga tp.length gc]) (by simp [results, Try.results12, go_sem, r0, r1, r2, r3, r4]) rfl (by
      rw [HYE.out, HTE.out]
      exact app_end HZL.out HBW.out HT.out.s HOG.out HK5.out)
end Go.Proofs.Ytdnpbhijjmlecaa

/- Whatever record comes, what is kept stays kept. -/
namespace Go.Proofs.Ytdnpbhijjmlecaa
set_option linter.unusedSimpArgs false
set_option linter.unusedVariables false

theorem get_mem {gs : GL} {n : List UInt8} {x : Gr} (h : getG gs n = some x) : (n, x) ∈ gs := by
  unfold getG at h
  obtain ⟨p, hp, rfl⟩ := Option.map_eq_some_iff.1 h
  have h1 := List.mem_of_find?_eq_some hp
  have h2 := List.find?_some hp
  simp only [beq_iff_eq] at h2
  rw [← h2]; exact h1
theorem get_none {gs : GL} {n : List UInt8} (h : getG gs n = none) : ∀ p ∈ gs, p.1 ≠ n := by
  unfold getG at h
  simp only [Option.map_eq_none_iff] at h
  intro p hp
  have := List.find?_eq_none.1 h p hp
  simpa using this
theorem mem_insG (z p : List UInt8 × Gr) : ∀ gs : GL, p ∈ insG z gs ↔ p = z ∨ p ∈ gs
  | [] => by simp [insG]
  | y :: r => by
    unfold insG
    split
    · simp
    · simp only [List.mem_cons, mem_insG z p r]
      constructor
      · rintro (h | h | h) <;> simp [h]
      · rintro (h | h | h) <;> simp [h]
theorem len_insG (z : List UInt8 × Gr) : ∀ gs : GL, (insG z gs).length = gs.length + 1
  | [] => rfl
  | y :: r => by
    unfold insG
    split
    · rfl
    · simp [len_insG z r]
theorem get_insG (n k : List UInt8) (y : Gr) : ∀ gs : GL, (∀ p ∈ gs, p.1 ≠ n) → getG (insG (n, y) gs) k = if n = k then some y else getG gs k
  | [], _ => by
    unfold insG getG
    by_cases h : n = k
    · subst h; simp
    · have : (n == k) = false := by simpa using h
      simp [this, h]
  | p :: r, hn => by
    have ih := get_insG n k y r (fun p hp => hn p (List.mem_cons_of_mem _ hp))
    have hp := hn p (List.mem_cons_self ..)
    unfold insG
    split
    · by_cases h : n = k
      · subst h; unfold getG; simp
      · have : (n == k) = false := by simpa using h
        unfold getG
        simp [List.find?_cons, this, h]
    · unfold getG at ih ⊢
      simp only [List.find?_cons]
      cases hpk : p.1 == k with
      | true =>
        have : p.1 = k := by simpa using hpk
        have hnk : ¬ n = k := fun e => hp (this.trans e.symm)
        simp [hnk]
      | false => exact ih
theorem get_setG (n k : List UInt8) (y : Gr) : ∀ gs : GL, getG (setG gs n y) k = if n = k then (getG gs k).map (fun _ => y) else getG gs k
  | [] => by simp [setG, getG]
  | p :: r => by
    have ih := get_setG n k y r
    unfold setG getG at ih ⊢
    simp only [List.map_cons, List.find?_cons]
    by_cases hpn : p.1 = n
    · have : (p.1 == n) = true := by simpa using hpn
      simp only [this, if_true]
      by_cases h : n = k
      · subst h
        simp [this]
      · have h2 : (p.1 == k) = false := by rw [hpn]; simpa using h
        simp only [h2]
        exact ih
    · have : (p.1 == n) = false := by simpa using hpn
      simp only [this, Bool.false_eq_true, if_false]
      cases hpk : p.1 == k with
      | true =>
        have : p.1 = k := by simpa using hpk
        have hnk : ¬ n = k := fun e => hpn (this.trans e.symm)
        simp [hnk]
      | false => exact ih
theorem get_putG {gs : GL} {n : List UInt8} (y : Gr) (k : List UInt8) : getG (putG gs n y) k = if n = k then some y else getG gs k := by
  unfold putG
  cases hg : getG gs n with
  | some x =>
    simp only [Option.isSome_some, if_true]
    rw [get_setG]
    by_cases h : n = k
    · subst h; simp [hg]
    · simp [h]
  | none =>
    simp only [Option.isSome_none, Bool.false_eq_true, if_false]
    exact get_insG n k y gs (get_none hg)
theorem set_self {gs : GL} {n : List UInt8} {x : Gr} (hn : gs.Pairwise fun a b => a.1 ≠ b.1) (h : getG gs n = some x) : setG gs n x = gs := by
  unfold setG
  conv => rhs; rw [← List.map_id gs]
  apply List.map_congr_left
  intro p hp
  by_cases hpn : p.1 = n
  · have h1 : (p.1 == n) = true := by simpa using hpn
    have hm := get_mem h
    have : ∀ {L : GL}, L.Pairwise (fun a b => a.1 ≠ b.1) → p ∈ L → (n, x) ∈ L → p = (n, x) := by
      intro L
      induction L with
      | nil => intro _ h; cases h
      | cons z r ih =>
        intro hL h1 h2
        have hL' := List.pairwise_cons.1 hL
        rcases List.mem_cons.1 h1 with e1 | e1
        · rcases List.mem_cons.1 h2 with e2 | e2
          · rw [e1, e2]
          · exact absurd hpn (by rw [e1]; exact hL'.1 _ e2)
        · rcases List.mem_cons.1 h2 with e2 | e2
          · exact absurd hpn.symm (by rw [← e2] at hL'; exact hL'.1 _ e1)
          · exact ih hL'.2 e1 e2
    have e := this hn hp hm
    rw [h1]
    simp [e]
  · have h1 : (p.1 == n) = false := by simpa using hpn
    rw [h1]
    rfl
theorem set_names {gs : GL} {n : List UInt8} {x : Gr} (hn : gs.Pairwise fun a b => a.1 ≠ b.1) : (setG gs n x).Pairwise fun a b => a.1 ≠ b.1 := by
  unfold setG
  rw [List.pairwise_map]
  refine hn.imp fun {a b} hab => ?_
  split <;> split <;> exact hab
theorem mem_setG {gs : GL} {n : List UInt8} {x : Gr} {p : List UInt8 × Gr} (h : p ∈ setG gs n x) : (∃ d ∈ gs, p.1 = d.1 ∧ d.1 = n ∧ p.2 = x) ∨ p ∈ gs := by
  unfold setG at h
  obtain ⟨d, hd, rfl⟩ := List.mem_map.1 h
  by_cases hdn : (d.1 == n) = true
  · rw [if_pos hdn]
    exact .inl ⟨d, hd, rfl, by simpa using hdn, rfl⟩
  · rw [if_neg hdn]
    exact .inr hd
theorem insG_names {gs : GL} {n : List UInt8} {y : Gr} (hn : gs.Pairwise fun a b => a.1 ≠ b.1) (h : ∀ p ∈ gs, p.1 ≠ n) : (insG (n, y) gs).Pairwise fun a b => a.1 ≠ b.1 := by
  induction gs with
  | nil => simp [insG]
  | cons z r ih =>
    have hp' := List.pairwise_cons.1 hn
    unfold insG
    split
    · exact List.Pairwise.cons (fun p hp2 => (h p hp2).symm) hn
    · refine List.Pairwise.cons (fun p hp2 => ?_) (ih hp'.2 (fun p hp => h p (List.mem_cons_of_mem _ hp)))
      rcases (mem_insG _ _ _).1 hp2 with rfl | hp2
      · exact h z (List.mem_cons_self ..)
      · exact hp'.1 p hp2
theorem GsOk.mono {N M : Nat} {S : Gs} (h : GsOk N S) (hm : N ≤ M) : GsOk M S := ⟨h.names, h.few, fun p hp => ⟨(h.each p hp).1.mono hm, (h.each p hp).2⟩, h.epoch⟩
theorem GsOk.set {N : Nat} {S : Gs} (h : GsOk N S) {n : List UInt8} {y : Gr} (hy : GrOk N y) : GsOk N { S with gs := setG S.gs n y } := by
  refine ⟨set_names h.names, by simpa [setG] using h.few, fun p hp => ?_, h.epoch⟩
  rcases mem_setG hp with ⟨d, hd, e1, e2, e3⟩ | hp
  · rw [e1, e3]; exact ⟨hy, (h.each d hd).2⟩
  · exact h.each p hp
theorem GsOk.put {N : Nat} {S : Gs} (h : GsOk N S) {n : List UInt8} {y : Gr} (hy : GrOk N y) (hl : n.length ≤ 32) (hf : (getG S.gs n).isSome = true ∨ S.gs.length < 8) : GsOk N { S with gs := putG S.gs n y } := by
  unfold putG
  cases hg : getG S.gs n with
  | some x =>
    simp only [Option.isSome_some, if_true]
    exact h.set hy
  | none =>
    simp only [Option.isSome_none, Bool.false_eq_true, if_false]
    rw [hg] at hf
    have hf' : S.gs.length < 8 := by simpa using hf
    refine ⟨insG_names h.names (get_none hg), by rw [len_insG]; omega, fun p hp => ?_, h.epoch⟩
    rcases (mem_insG _ _ _).1 hp with rfl | hp
    · exact ⟨hy, hl⟩
    · exact h.each p hp
theorem joinG_ok {N : Nat} {x : Gr} (h : GrOk N x) (m : Rc) (hr : riseB 0 m.list = true) (hm : m.a = 0 → x.mem.length < 16) (he : x.ever < 1000000) : GrOk (N + 1) (joinG x m) := by
  have hg := h.gen
  have hev := h.ever
  unfold joinG joinX
  by_cases ha : m.a = 0
  · simp only [ha, if_true]
    refine ⟨?_, fun y hy => ?_, ?_, hr, h.keys, h.offs, by simp [admitG]; omega, by simp [admitG]; omega⟩
    · show (x.mem ++ [_]).Pairwise _
      rw [List.pairwise_append]
      refine ⟨h.rise, by simp, fun y hy z hz => ?_⟩
      obtain rfl := List.mem_singleton.1 hz
      have := h.mems y hy
      simp only
      omega
    · rcases List.mem_append.1 hy with hy | hy
      · have := h.mems y hy
        simp only [admitG]
        omega
      · obtain rfl := List.mem_singleton.1 hy
        simp only [admitG]
        omega
    · show (x.mem ++ [_]).length ≤ 16
      have := hm ha
      simp
      omega
  · simp only [ha, if_false]
    exact ⟨h.rise, h.mems, h.few, hr, h.keys, h.offs, by simp only; omega, h.ever⟩
theorem oneI_ok {N : Nat} {x : Gr} (h : GrOk N x) (m : Rc) : GrOk (N + 1) (oneI x m).1 := by
  have hg := h.gen
  unfold oneI
  split
  · unfold leaveI
    cases hp : placeN x.mem m.a with
    | none => exact h.mono (by omega)
    | some i =>
      have hsub : (x.mem.eraseIdx i).Sublist x.mem := List.eraseIdx_sublist ..
      exact ⟨h.rise.sublist hsub, fun y hy => h.mems y (hsub.subset hy), Nat.le_trans hsub.length_le h.few, h.parts, h.keys, h.offs, by simp only; omega, h.ever⟩
  · split
    · unfold commitI
      by_cases hc : comE x m ≠ 0
      · rw [if_pos hc]; exact h.mono (by omega)
      · rw [if_neg hc]
        obtain ⟨z1, zb, zd, ⟨n, hn, hn2, zz⟩, zo, zc1, zc2⟩ := comE_zero (m := m) h (by omega)
        have hb := h.mono (show N ≤ N + 1 by omega)
        unfold offB at zd hn2
        simp only [decide_eq_true_eq] at zd hn2
        have hmod : ∀ (l : List Mb) (i : Nat), (setNum l i (m.list.headD 0)).map (·.id) = l.map (·.id) := by
          intro l
          induction l with
          | nil => intro i; cases i <;> rfl
          | cons y r ih =>
            intro i
            cases i with
            | zero => rfl
            | succ i => show y.id :: (setNum r i _).map (·.id) = y.id :: r.map (·.id); rw [ih]
        have hmem : ∀ (l : List Mb) (i : Nat) (y : Mb), y ∈ setNum l i (m.list.headD 0) → ∃ z ∈ l, y.id = z.id ∧ (y.num = z.num ∨ y.num = n) := by
          intro l
          induction l with
          | nil => intro i y hy; cases i <;> cases hy
          | cons w r ih =>
            intro i y hy
            cases i with
            | zero =>
              rcases List.mem_cons.1 hy with rfl | hy
              · exact ⟨w, List.mem_cons_self .., rfl, .inr (by rw [hn]; rfl)⟩
              · exact ⟨y, List.mem_cons_of_mem _ hy, rfl, .inl rfl⟩
            | succ i =>
              rcases List.mem_cons.1 hy with rfl | hy
              · exact ⟨_, List.mem_cons_self .., rfl, .inl rfl⟩
              · obtain ⟨z, hz, e⟩ := ih i y hy
                exact ⟨z, List.mem_cons_of_mem _ hz, e⟩
        refine ⟨?_, fun y hy => ?_, by simpa [setNum] using h.few, h.parts, rise_putO h.keys _ _, fun p hp => ?_, hb.gen, h.ever⟩
        · have h1 : (x.mem.map (·.id)).Pairwise (· < ·) := by rw [List.pairwise_map]; exact h.rise
          rw [← hmod x.mem ((placeN x.mem m.a).getD 0), List.pairwise_map] at h1
          exact h1
        · obtain ⟨z, hz, e1, e2⟩ := hmem _ _ _ hy
          have := h.mems z hz
          rw [e1]
          simp only
          rcases e2 with e2 | e2 <;> rw [e2] <;> omega
        · rcases (mem_putO _ _ _ _).1 hp with rfl | ⟨hp, _⟩
          · simp only; omega
          · exact h.offs p hp
    · split
      · have e : (syncI x m).1 = x := by unfold syncI; split <;> rfl
        rw [e]; exact h.mono (by omega)
      · exact h.mono (by omega)
theorem apply_ok {N : Nat} {S : Gs} (h : GsOk N S) (m : Rc) (hrc : RcOk m) : GsOk (N + 1) (applyI S m).1 := by
  have h1 := h.mono (show N ≤ N + 1 by omega)
  unfold applyI
  split
  · unfold joinI
    by_cases hj : joinE S.gs m ≠ 0
    · rw [if_pos hj]; exact h1
    · rw [if_neg hj]
      obtain ⟨j1, j2, j3, j4, j5, j6, j7⟩ := joinE_zero (by omega : joinE S.gs m = 0)
      refine h1.put (joinG_ok (foundOk h m.key) m j3 j6 j7) ?_ j5
      unfold nameB at j1
      simp only [Bool.and_eq_true, decide_eq_true_eq] at j1
      show m.name.data.toList.length ≤ 32
      have := j1.1.2
      simpa using this
  · split
    · unfold askI
      cases hg : getG S.gs m.key with
      | none => exact h1
      | some x => exact h1.set (oneI_ok (h.each _ (get_mem hg)).1 m)
    · split
      · unfold epochI
        by_cases he : m.a < S.epoch
        · rw [if_pos he]; exact h1
        · rw [if_neg he]; exact ⟨h1.names, h1.few, h1.each, hrc.2.1⟩
      · exact h1
end Go.Proofs.Ytdnpbhijjmlecaa

