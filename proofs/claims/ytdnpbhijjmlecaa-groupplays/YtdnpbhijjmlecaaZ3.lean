/- Leave. -/
import Derived.Test.YtdnpbhijjmlecaaZ2
import Derived.Deep.CutRange
import Derived.Deep.CutBlock
namespace Go.Proofs.Ytdnpbhijjmlecaa
open Go.RowKit Go.Maps
set_option maxRecDepth 100000
set_option linter.unusedSimpArgs false
set_option linter.unusedVariables false

/-- What a call leaves of a group, and what it tells. -/
def OutG (Z : Nat → Prop) (w w' : World) (q : Nat) (x : Gr) (t : Td) (e : Ending) : Prop := ∃ Z', GrM w' Z' q x ∧ (∀ k, Z' k → Z k ∨ w.heap.size ≤ k) ∧ Keeps Z w w' ∧ ToldP (fun b => w.heap.size ≤ b ∧ ¬ Z' b) w' t e
theorem Keeps.drew {S : Nat → Prop} {w w' : World} (h : Keeps S w w') : Keeps S w w'.drew := ⟨h.os, h.tape, h.output, h.size, h.block⟩
theorem told_own {X : Nat → Prop} {w' : World} {t : Td} {e : Ending} (h : ToldP X w' t e) (hn : t.parts = []) {Y : Nat → Prop} : ToldP Y w' t e := by
  obtain ⟨a, c, h1, h2, h3⟩ := h
  exact ⟨a, c, h1, h2, fun hne => absurd hn hne⟩
/-- A row's cell is turned, or the group's own. -/
theorem GrC.leave {w1 w2 : World} {q ob g n cap : Nat} {vp : Value} {x : Gr} (h : GrC w1 q (.slice (some ⟨g, 0, none⟩) n cap) vp ob x) {y : Gr} {v2 : Value} (hg : w1.grownBy w2 (some g)) (hm : w2.ownsRow 0 84 2 v2 y.mem.length (flatM y.mem)) (hv : v2.ownBlock = some g) (he : y.ever = x.ever) (hp : y.parts = x.parts) (ho : y.offs = x.offs) :
    GrC ((w2.setCell ⟨q, 2, none⟩ v2).setCell ⟨q, 0, none⟩ (.int .i64 y.gen)) q v2 vp ob y ∧ Keeps (Own q (.slice (some ⟨g, 0, none⟩) n cap) ob) w1 ((w2.setCell ⟨q, 2, none⟩ v2).setCell ⟨q, 0, none⟩ (.int .i64 y.gen)) := by
  have hqg : q ≠ g := fun e => h.ne_qm (by rw [e]; rfl)
  have hog : ob ≠ g := fun e => h.ne_om (by rw [e]; rfl)
  have hqo := h.ne_qo
  have hq2 := (hg.block q (h.lt (.inl rfl)) (fun e => hqg (by cases e; rfl))).trans h.cells
  have hk : Keeps (Own q (.slice (some ⟨g, 0, none⟩) n cap) ob) w1 ((w2.setCell ⟨q, 2, none⟩ v2).setCell ⟨q, 0, none⟩ (.int .i64 y.gen)) :=
    ((Keeps.of_grown (S := Own q (.slice (some ⟨g, 0, none⟩) n cap) ob) hg (fun k hk => by cases hk; exact .inr (.inr rfl))).trans (Keeps.set (S := Own q (.slice (some ⟨g, 0, none⟩) n cap) ob) w2 (a := ⟨q, 2, none⟩) (.inl rfl) v2) (fun _ k => .inl k)).trans (Keeps.set (S := Own q (.slice (some ⟨g, 0, none⟩) n cap) ob) _ (a := ⟨q, 0, none⟩) (.inl rfl) _) (fun _ k => .inl k)
  have hsb := fun b (hb : b ≠ q) => (Below.heap_setCell (w2.setCell ⟨q, 2, none⟩ v2) ⟨q, 0, none⟩ (.int .i64 y.gen) b hb).trans (Below.heap_setCell w2 ⟨q, 2, none⟩ v2 b hb)
  refine ⟨⟨?_, ?_, ?_, ?_, ?_⟩, hk⟩
  · have := set_box (j := 0) (v := .int .i64 y.gen) (set_box (j := 2) (v := v2) hq2)
    rw [this, he]
    rfl
  · exact row_kept hm (fun k hk => by rw [hv] at hk; cases hk; exact hsb _ hqg.symm)
  · rw [hp]; exact h.parts.keeps hk h.apart
  · rw [ho]
    obtain ⟨es, clock, hmm, r⟩ := h.offs
    exact ⟨es, clock, ((hsb ob hqo.symm).trans (hg.block ob (h.lt (.inr (.inl rfl))) (fun e => hog (by cases e; rfl)))).trans hmm, r⟩
  · rw [hp]
    intro hn b off n' c e hb
    refine h.apart hn b off n' c e ?_
    rcases hb with hb | hb | hb
    · exact .inl hb
    · exact .inr (.inl hb)
    · exact .inr (.inr (by rw [hv] at hb; exact hb))
set_option maxHeartbeats 3200000 in
theorem leave_any {w : World} {Z : Nat → Prop} {q : Nat} {x : Gr} (h : GrM w Z q x) (hf : x.mem.length ≤ 1000) (hg : -1 ≤ x.gen ∧ x.gen ≤ 1000000000) (m : Rc) (la : Option Addr) (ln lc : Nat) :
    Calls Try.prog 60 #[.pointer (some ⟨q, 0, none⟩), recV m (.slice la ln lc)] w fun e w' => OutG Z w w' q (leaveI x m).1 (leaveI x m).2 e := by
  obtain ⟨vm, vp, ob, h, ho, hin, hz⟩ := h
  have hT := tb_new Z w (recA m (.slice la ln lc)) zTd
  have HT := hid hT
  have hbW : Below w.heap.size w ((w.alloc (.cells (recA m (.slice la ln lc)) 32)).alloc (.cells zTd 36)) := (tb_new (fun _ => False) w (recA m (.slice la ln lc)) zTd).k.base
  have HBW := hid hbW
  have HG := hid (h.under hbW)
  have HO := hid ho
  have HIN := hid hin
  have HZ := hid hz
  have HP := hid (place_any HG.out.read hf m.a)
  have a1 := cell_blk hT.x 1 _ rfl
  have hq := h.lt (.inl rfl)
  have HC : Hid (∀ V, Below ((w.alloc (.cells (recA m (.slice la ln lc)) 32)).alloc (.cells zTd 36)).heap.size ((w.alloc (.cells (recA m (.slice la ln lc)) 32)).alloc (.cells zTd 36)) V → V.cell? ⟨w.heap.size, 1, none⟩ = some (.int .i64 m.a) ∧ TB Z w V (recA m (.slice la ln lc)) zTd) := fun V hV => ⟨kept_cell hV a1, HT.out.under hV⟩
  have HOL : Hid (∀ k, Own q vm ob k → k < w.heap.size) := fun k hk => hz k (ho k hk)
  unfold recV recA zTd at *
  clear h hT hbW ho hin hz
  cases hp : placeN x.mem m.a with
  | none =>
    have HTOLD : Hid (leaveI x m = (x, errT 17)) := by show _ = _; unfold leaveI; rw [hp]
    have hpi : placeI x.mem m.a = -1 := by unfold placeI; rw [hp]
    rw [hpi] at HP
    rw [HTOLD.out]
    clear hp hpi HTOLD
    go_enter Try.func60, Try.ntmps60
    go_wp2_with fail
    generalize (w.alloc (.cells #[.int .i64 m.kind, .int .i64 m.a, .int .i64 m.b, .int .i64 m.c, .int .i64 m.d, .string m.name, .string m.text, .slice la ln lc] 32)).alloc (.cells #[.int .i64 0, .int .i64 0, .int .i64 0, .int .i64 0, .slice none 0 0] 36) = W at *
    refine HP.out.mono ?_
    rintro e w1 ⟨rfl, hb1⟩
    obtain ⟨b1, ht1⟩ := HC.out w1 hb1
    have z0 := cell_blk ht1.z 0 _ rfl
    have z1 := cell_blk ht1.z 1 _ rfl
    have z2 := cell_blk ht1.z 2 _ rfl
    have z3 := cell_blk ht1.z 3 _ rfl
    have z4 := cell_blk ht1.z 4 _ rfl
    have fz := frz_blk ht1.z
    have HT1 := hid ht1
    have HB1 := hid hb1
    clear hb1 ht1 a1
    go_wp2_with fail
    clear z0 z1 z2 z3 z4 fz
    have HT5 := hid ((HT1.out).five rfl (.int .i64 17) (.int .i64 0) (.int .i64 0) (.int .i64 0) (.slice none 0 0))
    have HK5 := hid (five_keeps (w1) (w.heap.size + 1) (.int .i64 17) (.int .i64 0) (.int .i64 0) (.int .i64 0) (.slice none 0 0))
    unfold five at HT5 HK5
    generalize ((((w1.setCell ⟨w.heap.size + 1, 0, none⟩ (.int .i64 17)).setCell ⟨w.heap.size + 1, 1, none⟩ (.int .i64 0)).setCell ⟨w.heap.size + 1, 2, none⟩ (.int .i64 0)).setCell ⟨w.heap.size + 1, 3, none⟩ (.int .i64 0)).setCell ⟨w.heap.size + 1, 4, none⟩ (.slice none 0 0) = N5 at *
    have r0 := cell_blk HT5.out.z 0 _ rfl
    have r1 := cell_blk HT5.out.z 1 _ rfl
    have r2 := cell_blk HT5.out.z 2 _ rfl
    have r3 := cell_blk HT5.out.z 3 _ rfl
    have r4 := cell_blk HT5.out.z 4 _ rfl
    exact bodyPost_ret (v := .agg #[.int .i64 17, .int .i64 0, .int .i64 0, .int .i64 0, .slice none 0 0]) (by simp [results, Try.results60, go_sem, r0, r1, r2, r3, r4]) rfl (⟨Z, ⟨vm, vp, ob, (HG.out.under HB1.out).kept HO.out HIN.out (fun k hk => HK5.out.block k (by have := HZ.out k hk; have := HT1.out.s; omega) (fun e => by have := HZ.out k hk; omega)) HK5.out.size, HO.out, HIN.out, fun k hk => Nat.lt_of_lt_of_le (HZ.out k hk) HT5.out.k.size⟩, fun k hk => .inl hk, HT5.out.k, told_nil⟩)
  | some p =>
    obtain ⟨mb, hmb, hid1, hpl⟩ := place_some hp
    have HTOLD : Hid (leaveI x m = ({ x with mem := x.mem.eraseIdx p, gen := x.gen + 1 }, ⟨0, m.a, x.gen + 1, 0, []⟩)) := by show _ = _; unfold leaveI; rw [hp]
    have hpi : placeI x.mem m.a = p := by unfold placeI; rw [hp]
    rw [hpi] at HP
    rw [HTOLD.out]
    clear hp hpi HTOLD hmb hid1
    obtain ⟨oa, cap, rfl, hcap, hcm, _, hat⟩ := row_shape HG.out.mem
    obtain ⟨g, rfl⟩ := hat (by omega)
    have hpl' : ¬ (p : Int) < 0 := by omega
    have hpw : IntKind.i64.wrap ((p : Int) + 1) = (p : Int) + 1 := IntWalk.i64_in _ ⟨by omega, by omega⟩
    have HDEL : Hid (∀ V, Below ((w.alloc (.cells (recA m (.slice la ln lc)) 32)).alloc (.cells zTd 36)).heap.size ((w.alloc (.cells (recA m (.slice la ln lc)) 32)).alloc (.cells zTd 36)) V → Calls Try.prog 71 #[.slice (some ⟨g, 0, none⟩) x.mem.length cap, .int .i64 (p : Int), .int .i64 ((p : Int) + 1)] V fun e w' => e = .returned (.slice (some ⟨g, 0, none⟩) (x.mem.eraseIdx p).length cap) ∧ w'.ownsRow 0 84 2 (.slice (some ⟨g, 0, none⟩) (x.mem.eraseIdx p).length cap) (x.mem.eraseIdx p).length (flatM (x.mem.eraseIdx p)) ∧ V.grownBy w' (some g)) := fun V hV => delete_any (HG.out.under hV).mem hf p hpl
    have HLV : Hid (∀ V w2, Below ((w.alloc (.cells (recA m (.slice la ln lc)) 32)).alloc (.cells zTd 36)).heap.size ((w.alloc (.cells (recA m (.slice la ln lc)) 32)).alloc (.cells zTd 36)) V → V.grownBy w2 (some g) → w2.ownsRow 0 84 2 (.slice (some ⟨g, 0, none⟩) (x.mem.eraseIdx p).length cap) (x.mem.eraseIdx p).length (flatM (x.mem.eraseIdx p)) → GrC ((w2.setCell ⟨q, 2, none⟩ (.slice (some ⟨g, 0, none⟩) (x.mem.eraseIdx p).length cap)).setCell ⟨q, 0, none⟩ (.int .i64 (x.gen + 1))) q (.slice (some ⟨g, 0, none⟩) (x.mem.eraseIdx p).length cap) vp ob { x with mem := x.mem.eraseIdx p, gen := x.gen + 1 } ∧ Keeps (Own q (.slice (some ⟨g, 0, none⟩) x.mem.length cap) ob) V ((w2.setCell ⟨q, 2, none⟩ (.slice (some ⟨g, 0, none⟩) (x.mem.eraseIdx p).length cap)).setCell ⟨q, 0, none⟩ (.int .i64 (x.gen + 1)))) := fun V w2 hV hg2 hr2 => GrC.leave (y := { x with mem := x.mem.eraseIdx p, gen := x.gen + 1 }) (HG.out.under hV) hg2 hr2 rfl rfl rfl rfl
    have HQC : Hid (∀ V w2, Below ((w.alloc (.cells (recA m (.slice la ln lc)) 32)).alloc (.cells zTd 36)).heap.size ((w.alloc (.cells (recA m (.slice la ln lc)) 32)).alloc (.cells zTd 36)) V → V.grownBy w2 (some g) → w2.heap[q]? = some (.cells #[.int .i64 x.gen, .int .i64 x.ever, .slice (some ⟨g, 0, none⟩) x.mem.length cap, vp, .map (some ob)] 72 (0, 0))) := fun V w2 hV hg2 => (hg2.block q ((HG.out.under hV).lt (.inl rfl)) (fun e => (HG.out.under hV).ne_qm (by cases e; rfl))).trans (HG.out.under hV).cells
    have c2 : ∀ V, Below ((w.alloc (.cells (recA m (.slice la ln lc)) 32)).alloc (.cells zTd 36)).heap.size ((w.alloc (.cells (recA m (.slice la ln lc)) 32)).alloc (.cells zTd 36)) V → V.cell? ⟨q, 2, none⟩ = some (.slice (some ⟨g, 0, none⟩) x.mem.length cap) := fun V hV => (HG.out.under hV).read.c2
    have HC2 := hid c2
    have hgw : IntKind.i64.wrap (x.gen + 1) = x.gen + 1 := IntWalk.i64_in _ ⟨by omega, by omega⟩
    have hml : (x.mem.length : Int) ≤ 1000 := by omega
    clear hat hcap hcm c2
    unfold recA zTd at *
    generalize (x.mem.eraseIdx p).length = N at *
    obtain ⟨M, hM⟩ : ∃ M, M = x.mem.eraseIdx p := ⟨_, rfl⟩
    rw [← hM] at HDEL HLV ⊢
    clear hM
    obtain ⟨y, hy⟩ : ∃ y : Gr, y = { x with mem := M, gen := x.gen + 1 } := ⟨_, rfl⟩
    have HYP : Hid (y.parts = x.parts) := by show _ = _; rw [hy]
    rw [← hy] at HLV ⊢
    clear hy
    go_enter Try.func60, Try.ntmps60
    go_wp2_with fail
    generalize (w.alloc (.cells #[.int .i64 m.kind, .int .i64 m.a, .int .i64 m.b, .int .i64 m.c, .int .i64 m.d, .string m.name, .string m.text, .slice la ln lc] 32)).alloc (.cells #[.int .i64 0, .int .i64 0, .int .i64 0, .int .i64 0, .slice none 0 0] 36) = W at *
    refine HP.out.mono ?_
    rintro e w1 ⟨rfl, hb1⟩
    obtain ⟨b1, ht1⟩ := HC.out w1 hb1
    have HT1 := hid ht1
    have HB1 := hid hb1
    have c2 := HC2.out w1 hb1
    clear hb1 ht1 a1
    go_wp2_with fail
    refine (HDEL.out _ HB1.out).mono ?_
    rintro e w2 ⟨rfl, hr2, hg2⟩
    obtain ⟨gc3, k3⟩ := HLV.out w1 w2 HB1.out hg2 hr2
    have hq2 := HQC.out w1 w2 HB1.out hg2
    have q2 := cell_blk hq2 2 _ rfl
    have q0 := cell_blk hq2 0 _ rfl
    have fq := frz_blk hq2
    have HG3 := hid gc3
    have HK3 := hid k3
    have ht3 := HT1.out.next k3 (fun k hk => .inl (HO.out k hk)) (fun hk => by have := HOL.out _ hk; omega) (fun hk => by have := HOL.out _ hk; omega)
    have HT3 := hid ht3
    have b1' : ((w2.setCell ⟨q, 2, none⟩ (.slice (some ⟨g, 0, none⟩) N cap)).setCell ⟨q, 0, none⟩ (.int .i64 (x.gen + 1))).cell? ⟨w.heap.size, 1, none⟩ = some (.int .i64 m.a) := cell_blk ht3.x 1 _ rfl
    have g0' : ((w2.setCell ⟨q, 2, none⟩ (.slice (some ⟨g, 0, none⟩) N cap)).setCell ⟨q, 0, none⟩ (.int .i64 (x.gen + 1))).cell? ⟨q, 0, none⟩ = some (.int .i64 (x.gen + 1)) := cell_blk (set_box (j := 0) (v := .int .i64 (x.gen + 1)) (set_box (j := 2) (v := .slice (some ⟨g, 0, none⟩) N cap) hq2)) 0 _ rfl
    have B1' := hid b1'
    have G0' := hid g0'
    clear hr2 hg2 gc3 k3 hq2 ht3 b1' g0' c2 b1 HLV HQC HC2 HDEL HP
    go_upto_region 6 with fail
    have b1' := B1'.out
    have g0' := G0'.out
    clear q2 q0 fq
    generalize (w2.setCell ⟨q, 2, none⟩ (.slice (some ⟨g, 0, none⟩) N cap)).setCell ⟨q, 0, none⟩ (.int .i64 (x.gen + 1)) = W3 at *
    have z0 := cell_blk HT3.out.z 0 _ rfl
    have z1 := cell_blk HT3.out.z 1 _ rfl
    have z2 := cell_blk HT3.out.z 2 _ rfl
    have z3 := cell_blk HT3.out.z 3 _ rfl
    have z4 := cell_blk HT3.out.z 4 _ rfl
    have fz := frz_blk HT3.out.z
    have hn1 : ¬ q = w.heap.size + 1 := by omega
    have hn2 : ¬ w.heap.size + 1 = q := by omega
    go_wp2_with fail
    go_region_held3 (fun V => V.cell? ⟨q, 0, none⟩ = some (.int .i64 (x.gen + 1)) ∧ V.cell? ⟨w.heap.size, 1, none⟩ = some (.int .i64 m.a)) (go_keep) (fail)
    go_wp2_with fail
    clear z0 z1 z2 z3 z4 fz
    have HT5 := hid ((HT3.out).five rfl (.int .i64 0) (.int .i64 m.a) (.int .i64 (x.gen + 1)) (.int .i64 0) (.slice none 0 0))
    have HK5 := hid (five_keeps (W3) (w.heap.size + 1) (.int .i64 0) (.int .i64 m.a) (.int .i64 (x.gen + 1)) (.int .i64 0) (.slice none 0 0))
    unfold five at HT5 HK5
    generalize ((((W3.setCell ⟨w.heap.size + 1, 0, none⟩ (.int .i64 0)).setCell ⟨w.heap.size + 1, 1, none⟩ (.int .i64 m.a)).setCell ⟨w.heap.size + 1, 2, none⟩ (.int .i64 (x.gen + 1))).setCell ⟨w.heap.size + 1, 3, none⟩ (.int .i64 0)).setCell ⟨w.heap.size + 1, 4, none⟩ (.slice none 0 0) = N5 at *
    have r0 := cell_blk HT5.out.z 0 _ rfl
    have r1 := cell_blk HT5.out.z 1 _ rfl
    have r2 := cell_blk HT5.out.z 2 _ rfl
    have r3 := cell_blk HT5.out.z 3 _ rfl
    have r4 := cell_blk HT5.out.z 4 _ rfl
    exact bodyPost_ret (v := .agg #[.int .i64 0, .int .i64 m.a, .int .i64 (x.gen + 1), .int .i64 0, .slice none 0 0]) (by simp [results, Try.results60, go_sem, r0, r1, r2, r3, r4]) rfl (by
      have hnz : ∀ k, Own q (.slice (some ⟨g, 0, none⟩) N cap) ob k → Z k := fun k hk => HO.out k (hk.elim .inl (fun h => h.elim (fun h => .inr (.inl h)) (fun h => .inr (.inr h))))
      have hin3 : In Z vp y.parts := by rw [HYP.out]; exact HIN.out
      exact ⟨Z, ⟨.slice (some ⟨g, 0, none⟩) N cap, vp, ob, (HG3.out.kept hnz hin3 (fun k hk => HK5.out.block k (by have := HZ.out k hk; have := HT3.out.s; omega) (fun e => by have := HZ.out k hk; omega)) HK5.out.size).under (Below.refl _ _).drew, hnz, hin3, fun k hk => Nat.lt_of_lt_of_le (HZ.out k hk) HT5.out.k.drew.size⟩, fun k hk => .inl hk, HT5.out.k.drew, told_nil⟩)
end Go.Proofs.Ytdnpbhijjmlecaa

/- Commit. -/
namespace Go.Proofs.Ytdnpbhijjmlecaa
open Go.RowKit Go.Maps
set_option maxRecDepth 100000
set_option linter.unusedSimpArgs false
set_option linter.unusedVariables false

/-- One cell of a row is another. -/
theorem row_cell {w : World} {T : TypeId} {m g n c len : Nat} {vs : List Value} (h : w.ownsRow 0 T m (.slice (some ⟨g, 0, none⟩) n c) len vs) (j : Nat) (y : Value) : (w.setCell ⟨g, j, none⟩ y).ownsRow 0 T m (.slice (some ⟨g, 0, none⟩) n c) len (vs.set j y) := by
  obtain ⟨h1, ⟨e, h0⟩ | ⟨g', cap', cur, e, hB, hg, hn, hc, hs, ht⟩⟩ := h
  · cases e
  · cases e
    refine ⟨by simpa using h1, .inr ⟨g, c, cur.setIfInBounds j y, rfl, hB, set_box hg, hn, hc, by simpa using hs, ?_⟩⟩
    rw [← ht]
    simp only [Array.toList_setIfInBounds]
    rw [List.take_set]
theorem flatM_set : ∀ (l : List Mb) (i : Nat) (n : Int), i < l.length → (flatM l).set (i * 2 + 1) (.int .i64 n) = flatM (setNum l i n)
  | [], i, n, h => by simp at h
  | m :: r, 0, n, h => rfl
  | m :: r, i + 1, n, h => by
    have ih := flatM_set r i n (by simpa using h)
    show (_ :: _ :: flatM r).set ((i + 1) * 2 + 1) _ = _ :: _ :: flatM (setNum r i n)
    rw [← ih, show (i + 1) * 2 + 1 = i * 2 + 1 + 1 + 1 by omega]
    rfl
theorem setNum_length (l : List Mb) (i : Nat) (n : Int) : (setNum l i n).length = l.length := by simp [setNum]
section
variable {w : World} {q ob : Nat} {vm vp : Value} {x : Gr}
theorem GrC.put (h : GrC w q vm vp ob x) (hl : x.offs.length ≤ 1000) (n v : Int) (hn : I64 n) :
    ∃ w', (Instr.mapUpdate 70 (.map (some ob)) (.int .i64 n) (.int .i64 v)).run Try.prog w = .ok () w' ∧ GrC w' q vm vp ob { x with offs := putO x.offs n v } ∧ w.grownBy w' (some ob) := by
  obtain ⟨w', hrun, hown, ht⟩ := h.offs.store law3 Try.underlying70 (by unfold maxLen; omega) (keyOf_int_mk Try.underlying3 (wf_of hn)) (show Ro (.int .i64 v) = some (.held (.int .i64 v), []) from rfl)
  have hg := ht.grown
  have hk : Keeps (Own q vm ob) w w' := Keeps.of_grown hg (fun k hk => by cases hk; exact .inr (.inl rfl))
  refine ⟨w', hrun, ⟨(hg.block q (h.lt (.inl rfl)) (fun e => h.ne_qo (by cases e; rfl))).trans h.cells, row_kept h.mem (fun k hk => hg.block k (row_lt h.mem hk) (fun e => by cases e; exact h.ne_om hk)), h.parts.keeps hk h.apart, ?_, h.apart⟩, hg⟩
  rw [omap_put] at hown
  have := tightO hown
  rw [omap_size] at this
  exact this
theorem GrC.num {g n cap : Nat} (h : GrC w q (.slice (some ⟨g, 0, none⟩) n cap) vp ob x) (i : Nat) (hi : i < x.mem.length) (v : Int) : GrC (w.setCell ⟨g, i * 2 + 1, none⟩ (.int .i64 v)) q (.slice (some ⟨g, 0, none⟩) n cap) vp ob { x with mem := setNum x.mem i v } ∧ Keeps (Own q (.slice (some ⟨g, 0, none⟩) n cap) ob) w (w.setCell ⟨g, i * 2 + 1, none⟩ (.int .i64 v)) := by
  have hqg : q ≠ g := fun e => h.ne_qm (by rw [e]; rfl)
  have hog : ob ≠ g := fun e => h.ne_om (by rw [e]; rfl)
  have hk : Keeps (Own q (.slice (some ⟨g, 0, none⟩) n cap) ob) w (w.setCell ⟨g, i * 2 + 1, none⟩ (.int .i64 v)) := Keeps.set w (a := ⟨g, i * 2 + 1, none⟩) (.inr (.inr rfl)) _
  refine ⟨⟨(Below.heap_setCell _ _ _ _ hqg).trans h.cells, ?_, h.parts.keeps hk h.apart, ?_, h.apart⟩, hk⟩
  · have := row_cell h.mem (i * 2 + 1) (.int .i64 v)
    rw [flatM_set _ _ _ hi] at this
    show World.ownsRow _ 0 84 2 _ (setNum x.mem i v).length _
    rw [setNum_length]
    exact this
  · obtain ⟨es, clock, hm, r⟩ := h.offs
    exact ⟨es, clock, (Below.heap_setCell _ _ _ _ hog).trans hm, r⟩
end
theorem comE_zero {x : Gr} {m : Rc} {N : Nat} (hok : GrOk N x) (h : comE x m = 0) : hasM x m.a = true ∧ m.b = x.gen ∧ offB m.d = true ∧ (∃ n, m.list = [n] ∧ offB n = true ∧ ¬ n ≤ numOf x m.a) ∧ ownerI x m.c = m.a ∧ 1 ≤ m.c ∧ m.c ≤ 16 := by
  unfold comE at h
  split at h
  · omega
  · rename_i h0
    obtain ⟨h1, h2⟩ := memE_has (by omega : memE x m = 0)
    split at h
    · omega
    · rename_i h3
      split at h
      · omega
      · rename_i h4
        split at h
        · omega
        · rename_i h5
          have h5' : ownerI x m.c = m.a := by omega
          have hd : offB m.d = true := by cases hb : offB m.d with | true => rfl | false => exact absurd (.inl hb) h3
          have ho : oneB m.list = true := by cases hb : oneB m.list with | true => rfl | false => exact absurd (.inr hb) h3
          unfold oneB at ho
          simp only [Bool.and_eq_true, decide_eq_true_eq] at ho
          obtain ⟨n, hn⟩ := one_of ho.1
          refine ⟨h1, h2, hd, ⟨n, hn, by have := ho.2; rw [hn] at this; exact this, by rw [hn] at h4; exact h4⟩, h5', ?_⟩
          have ha : 1 ≤ m.a := by
            unfold hasM at h1
            obtain ⟨p, hp⟩ := Option.isSome_iff_exists.1 h1
            obtain ⟨mb, hmb, hid1, hpl⟩ := place_some hp
            have := hok.mems mb (List.mem_of_getElem? hmb)
            omega
          have hmem : ∀ (r : List Mb) (i : Nat), ownFrom x m.c i r ≠ 0 → m.c ∈ x.parts := by
            intro r
            induction r with
            | nil => intro i hi; exact absurd rfl hi
            | cons y r ih =>
              intro i hi
              unfold ownFrom at hi
              split at hi
              · rename_i hh
                exact shareL_mem (hasB_iff.1 hh)
              · exact ih _ hi
          have := rise_mem x.parts 0 hok.parts m.c (hmem x.mem 0 (by unfold ownerI at h5'; omega))
          omega
set_option maxHeartbeats 6400000 in
theorem commit_any {w : World} {Z : Nat → Prop} {q : Nat} {x : Gr} {N : Nat} (h : GrM w Z q x) (hok : GrOk N x) (m : Rc) (hrc : RcOk m) (la : Option Addr) (lc : Nat) (hl : IL w (.slice la m.list.length lc) m.list) (hlz : In (fun k => ¬ Z k) (.slice la m.list.length lc) m.list) :
    Calls Try.prog 61 #[.pointer (some ⟨q, 0, none⟩), recV m (.slice la m.list.length lc)] w fun e w' => OutG Z w w' q (commitI x m).1 (commitI x m).2 e := by
  have hf : x.mem.length ≤ 1000 := by have := hok.few; omega
  have h64 : ∀ y ∈ x.mem, I64 y.id := fun y hy => by have := hok.mems y hy; have := hok.ever; unfold I64; omega
  obtain ⟨vm, vp, ob, h, ho, hin, hz⟩ := h
  have hT := tb_new Z w (recA m (.slice la m.list.length lc)) zTd
  have HT := hid hT
  have hbW : Below w.heap.size w ((w.alloc (.cells (recA m (.slice la m.list.length lc)) 32)).alloc (.cells zTd 36)) := (tb_new (fun _ => False) w (recA m (.slice la m.list.length lc)) zTd).k.base
  have HBW := hid hbW
  have HG := hid (h.under hbW)
  have HO := hid ho
  have HIN := hid hin
  have HZ := hid hz
  have HCE := hid (comE_any HG.out.read hf h64 m hrc.2.2.2.1 la lc (hl.under hbW))
  have HL := hid (hl.under hbW)
  have a0 := cell_blk hT.x 0 _ rfl
  have a1 := cell_blk hT.x 1 _ rfl
  have a2 := cell_blk hT.x 2 _ rfl
  have a3 := cell_blk hT.x 3 _ rfl
  have a4 := cell_blk hT.x 4 _ rfl
  have a5 := cell_blk hT.x 5 _ rfl
  have a6 := cell_blk hT.x 6 _ rfl
  have a7 := cell_blk hT.x 7 _ rfl
  have hq := h.lt (.inl rfl)
  have HC : Hid (∀ V, Below ((w.alloc (.cells (recA m (.slice la m.list.length lc)) 32)).alloc (.cells zTd 36)).heap.size ((w.alloc (.cells (recA m (.slice la m.list.length lc)) 32)).alloc (.cells zTd 36)) V → TB Z w V (recA m (.slice la m.list.length lc)) zTd) := fun V hV => HT.out.under hV
  have HOL : Hid (∀ k, Own q vm ob k → k < w.heap.size) := fun k hk => hz k (ho k hk)
  have HCZ := hid (comE_zero (m := m) hok)
  have HCI : Hid (commitI x m = if comE x m ≠ 0 then (x, errT (comE x m)) else ({ x with offs := putO x.offs m.c m.d, mem := setNum x.mem ((placeN x.mem m.a).getD 0) (m.list.headD 0) }, ⟨0, m.a, x.gen, m.d, []⟩)) := rfl
  have HLZ := hid hlz
  have HOLEN := hid hok.olen
  have HRC := hid hrc
  unfold recV recA zTd at *
  rw [HCI.out]
  clear h hT hbW ho hin hz hl hlz HCI hok h64 hrc
  generalize comE x m = E0 at *
  by_cases h0 : E0 = 0
  · subst h0
    rw [if_neg (by simp)]
    obtain ⟨z1, zb, zd, ⟨n, hn, hn2, zz⟩, zo, zc⟩ := HCZ.out rfl
    clear zb zo zz
    obtain ⟨p, hp⟩ := Option.isSome_iff_exists.1 (show (placeN x.mem m.a).isSome = true from z1)
    obtain ⟨mb, hmb, hid1, hpl⟩ := place_some hp
    have hpi : placeI x.mem m.a = p := by unfold placeI; rw [hp]
    have hhd : m.list.headD 0 = n := by rw [hn]; rfl
    have hln : m.list.length = 1 := by rw [hn]; rfl
    rw [hp, hhd]
    simp only [Option.getD_some]
    have hcl : ∃ b o, la = some ⟨b, o, none⟩ ∧ ¬ Z b ∧ b < w.heap.size + 2 ∧ ((w.alloc (.cells (recA m (.slice la m.list.length lc)) 32)).alloc (.cells zTd 36)).cell? ⟨b, o, none⟩ = some (.int .i64 n) := by
      have hne : m.list ≠ [] := by rw [hn]; simp
      obtain ⟨⟨a', c', e', _, _, _, hat⟩, _⟩ := HL.out
      simp only [Value.slice.injEq] at e'
      obtain ⟨b, o, e2, hlt, hcc⟩ := hat hne
      have hla := e'.1.trans e2
      have := hcc 0 (by rw [hn]; simp)
      have e3 : m.list[0]'(by rw [hn]; simp) = n := by simp [hn]
      rw [e3] at this
      exact ⟨b, o, hla, HLZ.out hne b o _ _ (by rw [hla]), by simpa using hlt, this⟩
    obtain ⟨lb, lo, rfl, hlbz, hlb2, hlc⟩ := hcl
    have HPL : Hid (∀ V y, GrC V q vm vp ob y → y.mem = x.mem → Calls Try.prog 59 #[.pointer (some ⟨q, 0, none⟩), .int .i64 m.a] V fun e w' => e = .returned (.int .i64 (p : Int)) ∧ Below V.heap.size V w') := fun V y hV hy => by rw [← hpi, ← hy]; exact place_any hV.read (by rw [hy]; exact hf) m.a
    obtain ⟨oa, cap, rfl, hcap, hcm, _, hat⟩ := row_shape HG.out.mem
    obtain ⟨g, rfl⟩ := hat (by omega)
    have hgl := HOL.out g (.inr (.inr rfl))
    have hol := HOL.out ob (.inr (.inl rfl))
    have hqg : ¬ q = g := fun e => HG.out.ne_qm (by rw [e]; rfl)
    have hgq : ¬ g = q := fun e => hqg e.symm
    have hlg : ¬ lb = g := fun e => hlbz (HO.out lb (.inr (.inr (by rw [e]; rfl))))
    have hgl2 : ¬ g = lb := fun e => hlg e.symm
    have HLO : Hid (¬ Own q (.slice (some ⟨g, 0, none⟩) x.mem.length cap) ob lb) := fun hk => hlbz (HO.out lb hk)
    have HPUT : Hid (∀ V, Below ((w.alloc (.cells (recA m (.slice (some ⟨lb, lo, none⟩) m.list.length lc)) 32)).alloc (.cells zTd 36)).heap.size ((w.alloc (.cells (recA m (.slice (some ⟨lb, lo, none⟩) m.list.length lc)) 32)).alloc (.cells zTd 36)) V → ∃ w', (Instr.mapUpdate 70 (.map (some ob)) (.int .i64 m.c) (.int .i64 m.d)).run Try.prog V = .ok () w' ∧ GrC w' q (.slice (some ⟨g, 0, none⟩) x.mem.length cap) vp ob { x with offs := putO x.offs m.c m.d } ∧ V.grownBy w' (some ob)) := fun V hV => (HG.out.under hV).put (by have := HOLEN.out; omega) m.c m.d HRC.out.2.2.2.1
    have HC4 : Hid (∀ V, Below ((w.alloc (.cells (recA m (.slice (some ⟨lb, lo, none⟩) m.list.length lc)) 32)).alloc (.cells zTd 36)).heap.size ((w.alloc (.cells (recA m (.slice (some ⟨lb, lo, none⟩) m.list.length lc)) 32)).alloc (.cells zTd 36)) V → V.cell? ⟨q, 4, none⟩ = some (.map (some ob))) := fun V hV => (HG.out.under hV).read.c4
    have HLC := hid hlc
    have HPLL := hid hpl
    have hp0 : (0 : Int) ≤ (p : Int) := by omega
    have hp1 : (p : Int) < (x.mem.length : Int) := by omega
    have hxg : ¬ w.heap.size = g := by omega
    have hgx : ¬ g = w.heap.size := by omega
    have hyg : ¬ w.heap.size + 1 = g := by omega
    have hgy : ¬ g = w.heap.size + 1 := by omega
    clear hp hmb hid1 hpi hhd z1 hcap hcm hat hlc zd hn2 zc HCZ HL
    unfold recA zTd at *
    obtain ⟨x1, hx1⟩ : ∃ x1 : Gr, x1 = { x with offs := putO x.offs m.c m.d } := ⟨_, rfl⟩
    rw [← hx1] at HPUT
    have HX1 : Hid (x1.mem = x.mem) := by show _ = _; rw [hx1]
    obtain ⟨x2, hx2⟩ : ∃ x2 : Gr, x2 = { x with offs := putO x.offs m.c m.d, mem := setNum x.mem p n } := ⟨_, rfl⟩
    have HX2 : Hid (x2 = { x1 with mem := setNum x1.mem p n }) := by show _ = _; rw [hx2, hx1]
    have HX2P : Hid (x2.parts = x.parts) := by show _ = _; rw [hx2]
    rw [← hx2]
    have HXG : Hid (x2.gen = x.gen) := by show _ = _; rw [hx2]
    clear hx1 hx2
    rw [hln] at *
    clear hln hn
    go_enter Try.func61, Try.ntmps61
    go_wp2_with fail
    generalize (w.alloc (.cells #[.int .i64 m.kind, .int .i64 m.a, .int .i64 m.b, .int .i64 m.c, .int .i64 m.d, .string m.name, .string m.text, .slice (some ⟨lb, lo, none⟩) 1 lc] 32)).alloc (.cells #[.int .i64 0, .int .i64 0, .int .i64 0, .int .i64 0, .slice none 0 0] 36) = W at *
    refine HCE.out.mono ?_
    rintro e w1 ⟨rfl, hb1⟩
    have ht1 := HC.out w1 hb1
    obtain ⟨w2, hup, hG2, hg2⟩ := HPUT.out w1.drew hb1.drew
    have HG2 := hid hG2
    have hk2 : Keeps (Own q (.slice (some ⟨g, 0, none⟩) x.mem.length cap) ob) w1 w2 := ((Keeps.refl _ w1).drew.trans (Keeps.of_grown (S := Own q (.slice (some ⟨g, 0, none⟩) x.mem.length cap) ob) hg2 (fun k hk => by cases hk; exact .inr (.inl rfl))) (fun _ k => .inl k))
    have ht2 := ht1.next hk2 (fun k hk => .inl (HO.out k hk)) (fun hk => by have := HOL.out _ hk; omega) (fun hk => by have := HOL.out _ hk; omega)
    have HT2 := hid ht2
    have HLC2 : Hid (w2.cell? ⟨lb, lo, none⟩ = some (.int .i64 n)) := (World.cell?_of_block (a := ⟨lb, lo, none⟩) (hk2.block lb (by have := ht1.s; omega) HLO.out)).trans (kept_cell hb1 HLC.out)
    have b3 := cell_blk ht1.x 3 _ rfl
    have b4 := cell_blk ht1.x 4 _ rfl
    have c4 := HC4.out w1 hb1
    clear hb1 ht1 hG2 hg2 hk2 ht2 HPUT HCE HC HC4 HLC a0 a1 a2 a3 a4 a5 a6 a7
    go_wp2_with fail
    go_cut [] from 13 to 21 (fun V => V = w2)
    case first =>
      go_region_with (fail)
      all_goals
        go_wp2_with fail
        go_meet
        case rel => rfl
    case rest =>
      subst hcut
      clear hup b3 b4 c4
      have c2 := HG2.out.read.c2
      have b1 := cell_blk HT2.out.x 1 _ rfl
      have b7 := cell_blk HT2.out.x 7 _ rfl
      have l1 := HLC2.out
      have HPL2 : Hid (∀ V, Below wc.heap.size wc V → Calls Try.prog 59 #[.pointer (some ⟨q, 0, none⟩), .int .i64 m.a] V fun e w' => e = .returned (.int .i64 (p : Int)) ∧ Below V.heap.size V w') := fun V hV => HPL.out V x1 (HG2.out.under hV) HX1.out
      have HKK : Hid (∀ V, Below wc.heap.size wc V → V.cell? ⟨q, 2, none⟩ = some (.slice (some ⟨g, 0, none⟩) x.mem.length cap) ∧ V.cell? ⟨w.heap.size, 1, none⟩ = some (.int .i64 m.a) ∧ V.cell? ⟨w.heap.size, 7, none⟩ = some (.slice (some ⟨lb, lo, none⟩) 1 lc) ∧ V.cell? ⟨lb, lo, none⟩ = some (.int .i64 n) ∧ (∃ u, V.cell? ⟨g, p * 2 + 1, none⟩ = some (.int .i64 u)) ∧ V.frozen? ⟨g, p * 2 + 1, none⟩ = false) := fun V hV => by
        have hGV := HG2.out.under hV
        have hmm := hGV.mem
        obtain ⟨cur, hcur⟩ := row_blk hmm (k := g) rfl
        have hpx : p < x1.mem.length := by rw [HX1.out]; exact HPLL.out
        exact ⟨hGV.read.c2, kept_cell hV b1, kept_cell hV b7, kept_cell hV HLC2.out, ⟨_, (row_mem hmm p x1.mem[p] (by simp [hpx])).2⟩, frz_blk hcur _⟩
      have HPX1 : Hid (p < x1.mem.length) := by show _ < _; rw [HX1.out]; exact HPLL.out
      clear HPL
      generalize x.mem.length = K at *
      go_wp2_with fail
      go_region_held3 (fun V => V.cell? ⟨q, 2, none⟩ = some (.slice (some ⟨g, 0, none⟩) K cap) ∧ V.cell? ⟨w.heap.size, 1, none⟩ = some (.int .i64 m.a) ∧ V.cell? ⟨w.heap.size, 7, none⟩ = some (.slice (some ⟨lb, lo, none⟩) 1 lc) ∧ V.cell? ⟨lb, lo, none⟩ = some (.int .i64 n)) (go_keep)
        (first | (go_at_call 59; refine (HPL2.out _ (by first | exact Below.refl _ _ | exact (Below.refl _ _).drew)).mono ?_; rintro e w3 ⟨rfl, hb3⟩; have HB3 := hid ((show Below wc.heap.size wc _ by first | exact Below.refl _ _ | exact (Below.refl _ _).drew).trans hb3); obtain ⟨f1, f2, f3, f4, ⟨u5, f5⟩, f6⟩ := HKK.out w3 HB3.out; clear hb3) | fail)
      go_upto_region 6 with fail
      have hg3 := HG2.out.under HB3.out
      obtain ⟨hg4, hk4⟩ := hg3.num p HPX1.out n
      rw [← HX2.out] at hg4
      have HG4 := hid hg4
      have ht4 := (HT2.out.under HB3.out).next hk4 (fun k hk => .inl (HO.out k hk)) (fun hk => by have := HOL.out _ hk; omega) (fun hk => by have := HOL.out _ hk; omega)
      have HT4 := hid ht4
      clear hg3 hg4 hk4 ht4 f1 f2 f3 f4 f5 f6 HPL2 HKK b1 b7 l1 c2
      generalize w3.setCell ⟨g, p * 2 + 1, none⟩ (.int .i64 n) = W4 at *
      have b1 := cell_blk HT4.out.x 1 _ rfl
      have b4 := cell_blk HT4.out.x 4 _ rfl
      have c0 := HG4.out.read.c0
      have z0 := cell_blk HT4.out.z 0 _ rfl
      have z1 := cell_blk HT4.out.z 1 _ rfl
      have z2 := cell_blk HT4.out.z 2 _ rfl
      have z3 := cell_blk HT4.out.z 3 _ rfl
      have z4 := cell_blk HT4.out.z 4 _ rfl
      have fz := frz_blk HT4.out.z
      have hn1 : ¬ q = w.heap.size + 1 := by omega
      have hn2 : ¬ w.heap.size + 1 = q := by omega
      rw [HXG.out] at c0
      go_wp2_with fail
      go_region_held3 (fun V => V.cell? ⟨q, 0, none⟩ = some (.int .i64 x.gen) ∧ V.cell? ⟨w.heap.size, 1, none⟩ = some (.int .i64 m.a) ∧ V.cell? ⟨w.heap.size, 4, none⟩ = some (.int .i64 m.d)) (go_keep) (fail)
      go_wp2_with fail
      clear z0 z1 z2 z3 z4 fz
      have HT5 := hid ((HT4.out).five rfl (.int .i64 0) (.int .i64 m.a) (.int .i64 x.gen) (.int .i64 m.d) (.slice none 0 0))
      have HK5 := hid (five_keeps (W4) (w.heap.size + 1) (.int .i64 0) (.int .i64 m.a) (.int .i64 x.gen) (.int .i64 m.d) (.slice none 0 0))
      unfold five at HT5 HK5
      generalize ((((W4.setCell ⟨w.heap.size + 1, 0, none⟩ (.int .i64 0)).setCell ⟨w.heap.size + 1, 1, none⟩ (.int .i64 m.a)).setCell ⟨w.heap.size + 1, 2, none⟩ (.int .i64 x.gen)).setCell ⟨w.heap.size + 1, 3, none⟩ (.int .i64 m.d)).setCell ⟨w.heap.size + 1, 4, none⟩ (.slice none 0 0) = N5 at *
      have r0 := cell_blk HT5.out.z 0 _ rfl
      have r1 := cell_blk HT5.out.z 1 _ rfl
      have r2 := cell_blk HT5.out.z 2 _ rfl
      have r3 := cell_blk HT5.out.z 3 _ rfl
      have r4 := cell_blk HT5.out.z 4 _ rfl
      exact bodyPost_ret (v := .agg #[.int .i64 0, .int .i64 m.a, .int .i64 x.gen, .int .i64 m.d, .slice none 0 0]) (by simp [results, Try.results61, go_sem, r0, r1, r2, r3, r4]) rfl (by
        have hin3 : In Z vp x2.parts := by rw [HX2P.out]; exact HIN.out
        exact ⟨Z, ⟨.slice (some ⟨g, 0, none⟩) K cap, vp, ob, (HG4.out.kept HO.out hin3 (fun k hk => HK5.out.block k (by have := HZ.out k hk; have := HT4.out.s; omega) (fun e => by have := HZ.out k hk; omega)) HK5.out.size).under (Below.refl _ _).drew, HO.out, hin3, fun k hk => Nat.lt_of_lt_of_le (HZ.out k hk) HT5.out.k.drew.size⟩, fun k hk => .inl hk, HT5.out.k.drew, told_nil⟩)
  · rw [if_pos h0]
    have h0' : (E0 == 0) = false := by simpa using h0
    clear HCZ
    go_enter Try.func61, Try.ntmps61
    go_wp2_with fail
    generalize (w.alloc (.cells #[.int .i64 m.kind, .int .i64 m.a, .int .i64 m.b, .int .i64 m.c, .int .i64 m.d, .string m.name, .string m.text, .slice la m.list.length lc] 32)).alloc (.cells #[.int .i64 0, .int .i64 0, .int .i64 0, .int .i64 0, .slice none 0 0] 36) = W at *
    refine HCE.out.mono ?_
    rintro e w1 ⟨rfl, hb1⟩
    have ht1 := HC.out w1 hb1
    have z0 := cell_blk ht1.z 0 _ rfl
    have z1 := cell_blk ht1.z 1 _ rfl
    have z2 := cell_blk ht1.z 2 _ rfl
    have z3 := cell_blk ht1.z 3 _ rfl
    have z4 := cell_blk ht1.z 4 _ rfl
    have fz := frz_blk ht1.z
    have HT1 := hid ht1
    have HB1 := hid hb1
    clear hb1 ht1 a0 a1 a2 a3 a4 a5 a6 a7 HCE HC
    go_wp2_with fail
    clear z0 z1 z2 z3 z4 fz
    have HT5 := hid ((HT1.out).five rfl (.int .i64 E0) (.int .i64 0) (.int .i64 0) (.int .i64 0) (.slice none 0 0))
    have HK5 := hid (five_keeps (w1) (w.heap.size + 1) (.int .i64 E0) (.int .i64 0) (.int .i64 0) (.int .i64 0) (.slice none 0 0))
    unfold five at HT5 HK5
    generalize ((((w1.setCell ⟨w.heap.size + 1, 0, none⟩ (.int .i64 E0)).setCell ⟨w.heap.size + 1, 1, none⟩ (.int .i64 0)).setCell ⟨w.heap.size + 1, 2, none⟩ (.int .i64 0)).setCell ⟨w.heap.size + 1, 3, none⟩ (.int .i64 0)).setCell ⟨w.heap.size + 1, 4, none⟩ (.slice none 0 0) = N5 at *
    have r0 := cell_blk HT5.out.z 0 _ rfl
    have r1 := cell_blk HT5.out.z 1 _ rfl
    have r2 := cell_blk HT5.out.z 2 _ rfl
    have r3 := cell_blk HT5.out.z 3 _ rfl
    have r4 := cell_blk HT5.out.z 4 _ rfl
    exact bodyPost_ret (v := .agg #[.int .i64 E0, .int .i64 0, .int .i64 0, .int .i64 0, .slice none 0 0]) (by simp [results, Try.results61, go_sem, r0, r1, r2, r3, r4]) rfl (⟨Z, ⟨vm, vp, ob, (HG.out.under HB1.out).kept HO.out HIN.out (fun k hk => HK5.out.block k (by have := HZ.out k hk; have := HT1.out.s; omega) (fun e => by have := HZ.out k hk; omega)) HK5.out.size, HO.out, HIN.out, fun k hk => Nat.lt_of_lt_of_le (HZ.out k hk) HT5.out.k.size⟩, fun k hk => .inl hk, HT5.out.k, told_nil⟩)
end Go.Proofs.Ytdnpbhijjmlecaa

/- All groups in memory; Find; what there is. -/
namespace Go.Proofs.Ytdnpbhijjmlecaa
open Go.RowKit Go.Maps
open Go.WideMaps (keyOf_string_mk)
set_option maxRecDepth 100000
set_option linter.unusedSimpArgs false
set_option linter.unusedVariables false

/-- A group that is there: its name, its block, what it is, its blocks. -/
structure En where
  name : List UInt8
  at_ : Nat
  g : Gr
  own : Nat → Prop
def Rg (v : Value) : Option (DataW Value × List MemPlace) :=
  match v with
  | .pointer _ => some (.held v, [])
  | _ => none
theorem Rg_inv {v : Value} {y : DataW Value × List MemPlace} (h : Rg v = some y) : y = (.held v, []) := by
  unfold Rg at h
  split at h
  · simpa using h.symm
  · cases h
def ptr (k : Nat) : Value := .pointer (some ⟨k, 0, none⟩)
def gmap (es : List En) : DataW Value := .map (es.map fun e => (Lit.string e.name, .held (ptr e.at_)))
def findE (es : List En) (n : List UInt8) : Option En := es.find? fun e => e.name == n
def ptrE (es : List En) (n : List UInt8) : Value := match findE es n with | some e => ptr e.at_ | none => .pointer none
theorem gmap_size (es : List En) : Maps.size (gmap es) = es.length := by simp [gmap, Maps.size]
theorem gk (a b : List UInt8) : (Lit.string a).sameKey (.string b) = (a == b) := rfl
theorem find_gmap (n : List UInt8) : ∀ es : List En,
    (es.map fun e => (Lit.string e.name, (DataW.held (ptr e.at_) : DataW Value))).find? (fun p => p.1.sameKey (.string n)) = (findE es n).map fun e => (Lit.string e.name, .held (ptr e.at_))
  | [] => rfl
  | p :: r => by
    have ih := find_gmap n r
    unfold findE at ih ⊢
    simp only [List.map_cons, List.find?_cons, gk]
    cases p.name == n
    · exact ih
    · rfl
theorem gmap_atKey (es : List En) (n : List UInt8) : (gmap es).atKey (.string n) (.held (.pointer none)) = .held (ptrE es n) := by
  unfold DataW.atKey gmap
  simp only [find_gmap]
  unfold ptrE
  cases findE es n <;> rfl
theorem gmap_has (n : List UInt8) (es : List En) : Maps.has (gmap es) (.string n) = (findE es n).isSome := by
  unfold findE gmap Maps.has
  induction es with
  | nil => rfl
  | cons p r ih =>
    simp only [List.map_cons, List.any_cons, gk, List.find?_cons]
    cases p.name == n
    · simpa only [Bool.false_or] using ih
    · rfl
def insE (x : En) : List En → List En
  | [] => [x]
  | y :: r => if bytesBefore x.name y.name then x :: y :: r else y :: insE x r
theorem insert_gmap (x : En) : ∀ es : List En,
    DataW.insert (Lit.string x.name, (DataW.held (ptr x.at_) : DataW Value)) (es.map fun e => (Lit.string e.name, .held (ptr e.at_))) = (insE x es).map fun e => (Lit.string e.name, .held (ptr e.at_))
  | [] => rfl
  | p :: r => by
    have ih := insert_gmap x r
    by_cases hb : bytesBefore x.name p.name = true
    · simp only [List.map_cons, DataW.insert, insE, Lit.before, hb, if_true]
    · simp only [List.map_cons, DataW.insert, insE, Lit.before, hb]
      simp only [Bool.false_eq_true, if_false, List.map_cons, ih]
theorem filter_gmap (n : List UInt8) : ∀ es : List En, (∀ e ∈ es, e.name ≠ n) →
    (es.map fun e => (Lit.string e.name, (DataW.held (ptr e.at_) : DataW Value))).filter (fun p => !p.1.sameKey (.string n)) = es.map fun e => (Lit.string e.name, .held (ptr e.at_))
  | [], _ => rfl
  | p :: r, h => by
    have ih := filter_gmap n r (fun e he => h e (List.mem_cons_of_mem _ he))
    have hp := h p (List.mem_cons_self ..)
    simp only [List.map_cons, List.filter_cons, gk, ih]
    rw [if_pos (by simpa using hp)]
theorem gmap_put (es : List En) (x : En) (h : ∀ e ∈ es, e.name ≠ x.name) : (gmap es).put (.string x.name) (.held (ptr x.at_)) = gmap (insE x es) := by
  show DataW.map (DataW.insert (.string x.name, .held (ptr x.at_)) ((es.map fun e => (Lit.string e.name, (DataW.held (ptr e.at_) : DataW Value))).filter (fun p => !p.1.sameKey (.string x.name)))) = _
  rw [filter_gmap _ _ h, insert_gmap x]
  rfl
theorem mem_insE (x p : En) : ∀ es : List En, p ∈ insE x es ↔ p = x ∨ p ∈ es
  | [] => by simp [insE]
  | y :: r => by
    unfold insE
    split
    · simp
    · simp [mem_insE x p r]
      constructor
      · rintro (h | h | h) <;> simp [h]
      · rintro (h | h | h) <;> simp [h]
theorem len_insE (x : En) : ∀ es : List En, (insE x es).length = es.length + 1
  | [] => rfl
  | y :: r => by
    unfold insE
    split
    · rfl
    · simp [len_insE x r]
theorem pair_insE (x : En) (T : En → En → Prop) (hs : ∀ p q, T p q → T q p) : ∀ es : List En, es.Pairwise T → (∀ p ∈ es, T x p) → (insE x es).Pairwise T
  | [], _, _ => by simp [insE]
  | y :: r, h, hx => by
    unfold insE
    split
    · exact List.Pairwise.cons hx h
    · have h' := List.pairwise_cons.1 h
      refine List.Pairwise.cons (fun p hp => ?_) (pair_insE x T hs r h'.2 (fun p hp => hx p (List.mem_cons_of_mem _ hp)))
      rcases (mem_insE x p r).1 hp with rfl | hp
      · exact hs _ _ (hx y (by simp))
      · exact h'.1 p hp
theorem abs_insE (x : En) : ∀ es : List En, (insE x es).map (fun e => (e.name, e.g)) = insG (x.name, x.g) (es.map fun e => (e.name, e.g))
  | [] => rfl
  | y :: r => by
    unfold insE insG
    simp only [List.map_cons]
    split
    · rfl
    · simp [abs_insE x r]
theorem get_abs (n : List UInt8) : ∀ es : List En, getG (es.map fun e => (e.name, e.g)) n = (findE es n).map (·.g)
  | [] => rfl
  | y :: r => by
    have ih := get_abs n r
    unfold getG findE at *
    simp only [List.map_cons, List.find?_cons]
    cases y.name == n
    · exact ih
    · rfl
theorem findE_mem {es : List En} {n : List UInt8} {e : En} (h : findE es n = some e) : e ∈ es ∧ e.name = n := by
  unfold findE at h
  exact ⟨List.mem_of_find?_eq_some h, by have := List.find?_some h; simpa using this⟩
theorem findE_none {es : List En} {n : List UInt8} (h : findE es n = none) : ∀ e ∈ es, e.name ≠ n := by
  unfold findE at h
  intro e he
  have := List.find?_eq_none.1 h e he
  simpa using this

structure AllC (w : World) (q b : Nat) (es : List En) (S : Gs) : Prop where
  cells : w.heap[q]? = some (.cells #[.map (some b), .int .i64 S.epoch] 54 (0, 0))
  bmap : w.ownsMap Try.prog 9 Rg b es.length (gmap es)
  abs : S.gs = es.map fun e => (e.name, e.g)
  each : ∀ e ∈ es, GrM w e.own e.at_ e.g ∧ ∀ k, e.own k → k ≠ q ∧ k ≠ b
  apart : es.Pairwise fun d e => ∀ k, d.own k → ¬ e.own k
def AllM (w : World) (Z : Nat → Prop) (q : Nat) (S : Gs) : Prop := ∃ b es, AllC w q b es S ∧ Z q ∧ Z b ∧ (∀ e ∈ es, ∀ k, e.own k → Z k) ∧ ∀ k, Z k → k < w.heap.size
section
variable {w : World} {q b : Nat} {es : List En} {S : Gs}
theorem AllC.qlt (h : AllC w q b es S) : q < w.heap.size := (Array.getElem?_eq_some_iff.1 h.cells).1
theorem AllC.blt (h : AllC w q b es S) : b < w.heap.size := h.bmap.lt
theorem AllC.ne_qb (h : AllC w q b es S) : q ≠ b := fun e => by
  obtain ⟨es, clock, hm, r⟩ := h.bmap
  rw [← e, h.cells] at hm; cases hm
theorem AllC.under (h : AllC w q b es S) {w1 : World} (hb : Below w.heap.size w w1) : AllC w1 q b es S := by
  refine ⟨(hb.block q h.qlt).trans h.cells, ?_, h.abs, fun e he => ⟨(h.each e he).1.under hb, (h.each e he).2⟩, h.apart⟩
  obtain ⟨xs, clock, hm, r⟩ := h.bmap
  exact ⟨xs, clock, (hb.block b h.blt).trans hm, r⟩
theorem AllC.c0 (h : AllC w q b es S) : w.cell? ⟨q, 0, none⟩ = some (.map (some b)) := cell_blk h.cells 0 _ rfl
theorem AllC.c1 (h : AllC w q b es S) : w.cell? ⟨q, 1, none⟩ = some (.int .i64 S.epoch) := cell_blk h.cells 1 _ rfl
theorem AllC.fz (h : AllC w q b es S) (j : Nat) : w.frozen? ⟨q, j, none⟩ = false := frz_blk h.cells j
theorem AllC.get (h : AllC w q b es S) (n : List UInt8) : getG S.gs n = (findE es n).map (·.g) := by rw [h.abs]; exact get_abs n es
theorem AllC.look_ok (h : AllC w q b es S) (n : ByteArray) (hn : n.size ≤ maxLen) :
    (Instr.lookup 52 (.map (some b)) (.string n) true).run Try.prog w = .ok (.tuple #[ptrE es n.data.toList, .bool (findE es n.data.toList).isSome]) w := by
  have hkey := keyOf_string_mk Try.underlying9 hn
  obtain ⟨v, ps, hrun, hv⟩ := World.ownsMap.look_ok h.bmap law9 Try.underlying52 (zero73 w) (zd := .held (.pointer none)) (zp := []) rfl hkey
  rw [gmap_atKey] at hv
  have hv := Rg_inv hv
  simp only [Prod.mk.injEq, DataW.held.injEq] at hv
  rw [hrun, ← hv.1, gmap_has]
end
theorem AllM.under {w w1 : World} {Z : Nat → Prop} {q : Nat} {S : Gs} (h : AllM w Z q S) (hb : Below w.heap.size w w1) : AllM w1 Z q S := by
  obtain ⟨b, es, h1, h2, h3, h4, h5⟩ := h
  exact ⟨b, es, h1.under hb, h2, h3, h4, fun k hk => Nat.lt_of_lt_of_le (h5 k hk) hb.size⟩
theorem AllM.kept {w w1 : World} {Z : Nat → Prop} {q : Nat} {S : Gs} (h : AllM w Z q S) (hz : ∀ k, Z k → w1.heap[k]? = w.heap[k]?) (hs : w.heap.size ≤ w1.heap.size) : AllM w1 Z q S := by
  obtain ⟨b, es, h1, h2, h3, h4, h5⟩ := h
  refine ⟨b, es, ⟨(hz q h2).trans h1.cells, ?_, h1.abs, fun e he => ⟨(h1.each e he).1.kept (fun k hk => hz k (h4 e he k hk)) hs, (h1.each e he).2⟩, h1.apart⟩, h2, h3, h4, fun k hk => Nat.lt_of_lt_of_le (h5 k hk) hs⟩
  obtain ⟨xs, clock, hm, r⟩ := h1.bmap
  exact ⟨xs, clock, (hz b h3).trans hm, r⟩
/-- The group of nothing. -/
theorem zero_group {w : World} {k : Nat} (h : w.heap[k]? = some (.cells #[.int .i64 0, .int .i64 0, .slice none 0 0, .slice none 0 0, .map none] 72 (0, 0))) : GrR w k (.slice none 0 0) (.slice none 0 0) (.map none) Gr.zero := by
  refine ⟨h, ⟨rfl, .inl ⟨rfl, rfl⟩⟩, IL.nil _, fun W hW n hn => ?_⟩
  exact Maps.look_nil true law3 Try.underlying70 (zero3 W) (keyOf_int_mk Try.underlying3 (wf_of hn))
set_option maxHeartbeats 800000 in
theorem find_any {w : World} {Z : Nat → Prop} {q : Nat} {S : Gs} (h : AllM w Z q S) (n : ByteArray) (hn : n.size ≤ maxLen) : Calls Try.prog 34 #[.pointer (some ⟨q, 0, none⟩), .string n] w fun e w' => ∃ k vm vp vo, e = .returned (ptr k) ∧ GrR w' k vm vp vo (foundG S.gs n.data.toList) ∧ Below w.heap.size w w' := by
  obtain ⟨b, es, h, _⟩ := h
  have c0 := h.c0
  have hl := h.look_ok n hn
  have hg := h.get n.data.toList
  have HH := hid h
  have HGT := hid hg
  clear h hg
  unfold ptrE at hl
  cases hf : findE es n.data.toList with
  | some x =>
    rw [hf] at hl HGT
    obtain ⟨hm, _⟩ := findE_mem hf
    obtain ⟨vm, vp, vo, hr⟩ := (HH.out.each x hm).1.read
    have HR := hid hr
    simp only [Option.isSome_some] at hl
    unfold ptr at hl
    clear hr hm hf
    go_enter Try.func34, Try.ntmps34
    go_wp2_with fail
    go_ret
    refine ⟨x.at_, vm, vp, vo, rfl, ?_, Below.refl _ _⟩
    unfold foundG
    rw [HGT.out]
    exact HR.out
  | none =>
    rw [hf] at hl HGT
    simp only [Option.isSome_none] at hl
    clear hf
    go_enter Try.func34, Try.ntmps34
    go_wp2_with fail
    go_ret
    refine ⟨w.heap.size, .slice none 0 0, .slice none 0 0, .map none, rfl, ?_, (Below.refl _ _).alloc (Nat.le_refl _) _⟩
    unfold foundG
    rw [HGT.out]
    exact zero_group (heap_alloc_new _ _)
theorem foundOk {N : Nat} {S : Gs} (h : GsOk N S) (n : List UInt8) : GrOk N (foundG S.gs n) := by
  unfold foundG
  cases hg : getG S.gs n with
  | none => exact zeroOk N
  | some x =>
    unfold getG at hg
    obtain ⟨p, hp, rfl⟩ := Option.map_eq_some_iff.1 hg
    exact (h.each p (List.mem_of_find?_eq_some hp)).1
theorem GrOk.m1000 {N : Nat} {x : Gr} (h : GrOk N x) : x.mem.length ≤ 1000 := by have := h.few; omega
theorem GrOk.id64 {N : Nat} {x : Gr} (h : GrOk N x) : ∀ y ∈ x.mem, I64 y.id := fun y hy => by have := h.mems y hy; have := h.ever; unfold I64; omega
set_option maxHeartbeats 800000 in
theorem gen_any {w : World} {Z : Nat → Prop} {q : Nat} {S : Gs} (h : AllM w Z q S) (n : ByteArray) (hn : n.size ≤ maxLen) : Calls Try.prog 18 #[.pointer (some ⟨q, 0, none⟩), .string n] w fun e w' => e = .returned (.int .i64 (foundG S.gs n.data.toList).gen) ∧ Below w.heap.size w w' := by
  have HF := hid (find_any h n hn)
  clear h
  go_enter Try.func18, Try.ntmps18
  go_wp2_with fail
  refine HF.out.mono ?_
  rintro e w1 ⟨k, vm, vp, vo, rfl, hr, hb1⟩
  have c0 := hr.c0
  unfold ptr
  go_wp2_with fail
  go_ret
  exact ⟨rfl, hb1⟩
set_option maxHeartbeats 800000 in
theorem epoch_any {w : World} {Z : Nat → Prop} {q : Nat} {S : Gs} (h : AllM w Z q S) : Calls Try.prog 19 #[.pointer (some ⟨q, 0, none⟩)] w fun e w' => e = .returned (.int .i64 S.epoch) ∧ w = w' := by
  obtain ⟨b, es, h, _⟩ := h
  have c1 := h.c1
  clear h
  go_enter Try.func19, Try.ntmps19
  go_wp2_with fail
  go_ret
  exact ⟨rfl, rfl⟩
set_option maxHeartbeats 800000 in
theorem Owner_any {w : World} {Z : Nat → Prop} {q : Nat} {S : Gs} {N : Nat} (h : AllM w Z q S) (hok : GsOk N S) (n : ByteArray) (hn : n.size ≤ maxLen) (part : Int) (hp : I64 part) : Calls Try.prog 20 #[.pointer (some ⟨q, 0, none⟩), .string n, .int .i64 part] w fun e w' => e = .returned (.int .i64 (ownerI (foundG S.gs n.data.toList) part)) ∧ Below w.heap.size w w' := by
  have HF := hid (find_any h n hn)
  have HK := hid (foundOk hok n.data.toList)
  clear h hok
  go_enter Try.func20, Try.ntmps20
  go_wp2_with fail
  refine HF.out.mono ?_
  rintro e w1 ⟨k, vm, vp, vo, rfl, hr, hb1⟩
  have HO := hid (owner_any hr HK.out.m1000 HK.out.id64 part hp)
  have HB := hid hb1
  clear hr hb1
  unfold ptr
  go_wp2_with fail
  refine HO.out.mono ?_
  rintro e w2 ⟨rfl, hb2⟩
  go_wp2_with fail
  go_ret
  exact ⟨rfl, HB.out.trans (hb2.mono HB.out.size)⟩
set_option maxHeartbeats 800000 in
theorem Offset_any {w : World} {Z : Nat → Prop} {q : Nat} {S : Gs} (h : AllM w Z q S) (n : ByteArray) (hn : n.size ≤ maxLen) (part : Int) (hp : I64 part) : Calls Try.prog 21 #[.pointer (some ⟨q, 0, none⟩), .string n, .int .i64 part] w fun e w' => e = .returned (.int .i64 (offI (foundG S.gs n.data.toList) part)) ∧ Below w.heap.size w w' := by
  have HF := hid (find_any h n hn)
  clear h
  go_enter Try.func21, Try.ntmps21
  go_wp2_with fail
  refine HF.out.mono ?_
  rintro e w1 ⟨k, vm, vp, vo, rfl, hr, hb1⟩
  have HO := hid (offset_any hr part hp)
  have HB := hid hb1
  clear hr hb1
  unfold ptr
  go_wp2_with fail
  refine HO.out.mono ?_
  rintro e w2 ⟨rfl, rfl⟩
  go_wp2_with fail
  go_ret
  exact ⟨rfl, HB.out⟩
set_option maxHeartbeats 800000 in
theorem Members_any {w : World} {Z : Nat → Prop} {q : Nat} {S : Gs} {N : Nat} (h : AllM w Z q S) (hok : GsOk N S) (n : ByteArray) (hn : n.size ≤ maxLen) : Calls Try.prog 22 #[.pointer (some ⟨q, 0, none⟩), .string n] w fun e w' => ∃ a c, e = .returned (.slice a (idsL (foundG S.gs n.data.toList)).length c) ∧ IL w' (.slice a (idsL (foundG S.gs n.data.toList)).length c) (idsL (foundG S.gs n.data.toList)) ∧ In (fun b => w.heap.size ≤ b) (.slice a (idsL (foundG S.gs n.data.toList)).length c) (idsL (foundG S.gs n.data.toList)) ∧ Below w.heap.size w w' := by
  have HF := hid (find_any h n hn)
  have HK := hid (foundOk hok n.data.toList)
  clear h hok
  go_enter Try.func22, Try.ntmps22
  go_wp2_with fail
  refine HF.out.mono ?_
  rintro e w1 ⟨k, vm, vp, vo, rfl, hr, hb1⟩
  have HO := hid (ids_any hr HK.out.m1000 HK.out.id64)
  have HB := hid hb1
  clear hr hb1
  unfold ptr
  go_wp2_with fail
  refine HO.out.mono ?_
  rintro e w2 ⟨v', rfl, h1, h2, hb2⟩
  obtain ⟨a, c, rfl⟩ : ∃ a c, v' = .slice a (idsL (foundG S.gs n.data.toList)).length c := by obtain ⟨⟨a, cap, e, _⟩, _⟩ := h1; exact ⟨_, _, e⟩
  have H1 := hid h1
  have H2 := hid h2
  clear h1 h2
  go_wp2_with fail
  go_ret
  exact ⟨a, c, rfl, H1.out, H2.out.mono (fun b hb => by have := HB.out.size; omega), HB.out.trans (hb2.mono HB.out.size)⟩
def gs_zero : Gs := ⟨[], 0⟩
end Go.Proofs.Ytdnpbhijjmlecaa

/- All groups: one is turned, one more; New; a new member; the group of a name is found or made; Epoch; no kind. -/
namespace Go.Proofs.Ytdnpbhijjmlecaa
open Go.RowKit Go.Maps
open Go.WideMaps (keyOf_string_mk)
set_option maxRecDepth 100000
set_option linter.unusedSimpArgs false
set_option linter.unusedVariables false

theorem names_eq : ∀ {es : List En}, es.Pairwise (fun a b => a.name ≠ b.name) → ∀ {d e : En}, d ∈ es → e ∈ es → d.name = e.name → d = e
  | x :: r, h, d, e, hd, he, hn => by
    have h' := List.pairwise_cons.1 h
    rcases List.mem_cons.1 hd with hd1 | hd1
    · rcases List.mem_cons.1 he with he1 | he1
      · rw [hd1, he1]
      · rw [hd1] at hn; exact absurd hn (h'.1 e he1)
    · rcases List.mem_cons.1 he with he1 | he1
      · rw [he1] at hn; exact absurd hn.symm (h'.1 d hd1)
      · exact names_eq h'.2 hd1 he1 hn
def turnE (e : En) (own' : Nat → Prop) (y : Gr) (d : En) : En := if d.name == e.name then ⟨d.name, d.at_, y, own'⟩ else d
theorem AllC.turn {w w1 : World} {q b : Nat} {es : List En} {S : Gs} (h : AllC w q b es S) (hnm : es.Pairwise (fun a b => a.name ≠ b.name)) {e : En} (he : e ∈ es) {own' : Nat → Prop} {y : Gr} (hk : Keeps e.own w w1) (hy : GrM w1 own' e.at_ y) (hs : ∀ k, own' k → e.own k ∨ w.heap.size ≤ k) : AllC w1 q b (es.map (turnE e own' y)) { S with gs := setG S.gs e.name y } := by
  have hq := h.qlt
  have hb := h.blt
  obtain ⟨hg, hne⟩ := h.each e he
  have hkept : ∀ d ∈ es, d ≠ e → ∀ k, d.own k → w1.heap[k]? = w.heap[k]? := fun d hd hde k hdk => by
    have hlt : k < w.heap.size := by obtain ⟨_, _, _, _, _, _, hz⟩ := (h.each d hd).1; exact hz k hdk
    refine hk.block k hlt (fun hek => ?_)
    have hsym : ∀ {L : List En}, L.Pairwise (fun d e => ∀ k, d.own k → ¬ e.own k) → ∀ {a c : En}, a ∈ L → c ∈ L → a ≠ c → ∀ k, a.own k → ¬ c.own k := by
      intro L
      induction L with
      | nil => intro _ a c ha; cases ha
      | cons x r ih =>
        intro hp a c ha hc hac k hak hck
        have hp' := List.pairwise_cons.1 hp
        rcases List.mem_cons.1 ha with ha1 | ha1
        · rcases List.mem_cons.1 hc with hc1 | hc1
          · exact hac (ha1.trans hc1.symm)
          · rw [ha1] at hak; exact hp'.1 c hc1 k hak hck
        · rcases List.mem_cons.1 hc with hc1 | hc1
          · rw [hc1] at hck; exact hp'.1 a ha1 k hck hak
          · exact ih hp'.2 ha1 hc1 hac k hak hck
    exact hsym h.apart hd he hde k hdk hek
  have hmapn : (es.map (turnE e own' y)).map (fun e => (Lit.string e.name, (DataW.held (ptr e.at_) : DataW Value))) = es.map (fun e => (Lit.string e.name, .held (ptr e.at_))) := by
    rw [List.map_map]
    apply List.map_congr_left
    intro d hd
    show (Lit.string (turnE e own' y d).name, DataW.held (ptr (turnE e own' y d).at_)) = _
    unfold turnE
    split <;> rfl
  refine ⟨(hk.block q hq (fun h => (hne q h).1 rfl)).trans h.cells, ?_, ?_, fun d' hd' => ?_, ?_⟩
  · obtain ⟨xs, clock, hm, r⟩ := h.bmap
    have : gmap (es.map (turnE e own' y)) = gmap es := by unfold gmap; rw [hmapn]
    rw [this, List.length_map]
    exact ⟨xs, clock, (hk.block b hb (fun h => (hne b h).2 rfl)).trans hm, r⟩
  · show setG S.gs e.name y = _
    rw [h.abs]
    unfold setG
    rw [List.map_map, List.map_map]
    apply List.map_congr_left
    intro d hd
    show (if d.name == e.name then (d.name, y) else (d.name, d.g)) = ((turnE e own' y d).name, (turnE e own' y d).g)
    unfold turnE
    split <;> rfl
  · obtain ⟨d, hd, rfl⟩ := List.mem_map.1 hd'
    unfold turnE
    by_cases hde : d = e
    · subst hde
      simp only [beq_self_eq_true, if_true]
      refine ⟨hy, fun k hk => ?_⟩
      rcases hs k hk with h1 | h1
      · exact hne k h1
      · omega
    · have hn : (d.name == e.name) = false := by
        simp only [beq_eq_false_iff_ne]
        exact fun hh => hde (names_eq hnm hd he hh)
      simp only [hn, Bool.false_eq_true, if_false]
      exact ⟨(h.each d hd).1.kept (hkept d hd hde) hk.size, (h.each d hd).2⟩
  · rw [List.pairwise_map]
    have hlt : ∀ d ∈ es, ∀ k, d.own k → k < w.heap.size := fun d hd k hdk => by obtain ⟨_, _, _, _, _, _, hz⟩ := (h.each d hd).1; exact hz k hdk
    refine (hnm.and h.apart).imp_of_mem (fun {d c} hd hc hdc => ?_)
    obtain ⟨hn, ha⟩ := hdc
    intro k hdk hck
    unfold turnE at hdk hck
    by_cases h1 : (d.name == e.name) = true
    · have hde : d = e := names_eq hnm hd he (by simpa using h1)
      subst hde
      have h2 : (c.name == d.name) = false := by simp only [beq_eq_false_iff_ne]; exact fun hh => hn hh.symm
      simp only [h1, if_true] at hdk
      simp only [h2, Bool.false_eq_true, if_false] at hck
      rcases hs k hdk with h3 | h3
      · exact ha k h3 hck
      · have := hlt c hc k hck; omega
    · by_cases h2 : (c.name == e.name) = true
      · have hce : c = e := names_eq hnm hc he (by simpa using h2)
        subst hce
        simp only [h1, if_false] at hdk
        simp only [h2, if_true] at hck
        rcases hs k hck with h3 | h3
        · exact ha k (by simpa using hdk) h3
        · have := hlt d hd k (by simpa using hdk); omega
      · simp only [h1, if_false] at hdk
        simp only [h2, if_false] at hck
        exact ha k (by simpa using hdk) (by simpa using hck)
theorem AllC.put {w : World} {q b : Nat} {es : List En} {S : Gs} (h : AllC w q b es S) (x : En) (hx : GrM w x.own x.at_ x.g) (hqb : ∀ k, x.own k → k ≠ q ∧ k ≠ b) (hn : ∀ e ∈ es, e.name ≠ x.name) (hap : ∀ e ∈ es, ∀ k, x.own k → ¬ e.own k) (few : es.length ≤ 1000) (n : ByteArray) (hs : n.size ≤ maxLen) (he : n.data.toList = x.name) :
    ∃ w', (Instr.mapUpdate 52 (.map (some b)) (.string n) (ptr x.at_)).run Try.prog w = .ok () w' ∧ AllC w' q b (insE x es) { S with gs := insG (x.name, x.g) S.gs } ∧ w.grownBy w' (some b) := by
  obtain ⟨w', hrun, hown, ht⟩ := h.bmap.store law9 Try.underlying52 (by unfold maxLen; omega) (keyOf_string_mk Try.underlying9 hs) (show Rg (ptr x.at_) = some (.held (ptr x.at_), []) from rfl)
  have hg := ht.grown
  have hnb : ∀ k, k ≠ b → k < w.heap.size → w'.heap[k]? = w.heap[k]? := fun k hk hl => hg.block k hl (fun e => hk (by cases e; rfl))
  have hlt : ∀ d ∈ es, ∀ k, d.own k → k < w.heap.size := fun d hd k hdk => by obtain ⟨_, _, _, _, _, _, hz⟩ := (h.each d hd).1; exact hz k hdk
  refine ⟨w', hrun, ⟨(hnb q h.ne_qb h.qlt).trans h.cells, ?_, ?_, fun d hd => ?_, ?_⟩, hg⟩
  · rw [he, gmap_put es x hn] at hown
    obtain ⟨ys, clock, hm, F, hs, e⟩ := hown
    have hl : (insE x es).length = Maps.size (gmap (insE x es)) := (gmap_size _).symm
    rw [hl, e]
    exact ⟨ys, clock, hm, F, by simp [Maps.size, length_sorted], rfl⟩
  · show insG (x.name, x.g) S.gs = _
    rw [h.abs, abs_insE]
  · rcases (mem_insE _ _ _).1 hd with rfl | hd
    · refine ⟨hx.kept (fun k hk => hnb k (hqb k hk).2 ?_) hg.size, hqb⟩
      obtain ⟨_, _, _, _, _, _, hz⟩ := hx
      exact hz k hk
    · exact ⟨(h.each d hd).1.kept (fun k hk => hnb k ((h.each d hd).2 k hk).2 (hlt d hd k hk)) hg.size, (h.each d hd).2⟩
  · exact pair_insE x _ (fun p q hpq k hq hp => hpq k hp hq) es h.apart (fun p hp => hap p hp)
set_option maxHeartbeats 800000 in
theorem new_any (w : World) : Calls Try.prog 10 #[] w fun e w' => e = .returned (ptr (w.heap.size + 1)) ∧ AllM w' (fun k => w.heap.size ≤ k ∧ k < w'.heap.size) (w.heap.size + 1) ⟨[], 0⟩ ∧ Below w.heap.size w w' := by
  have hmm := @run_makeMap Try.prog
  go_enter Try.func10, Try.ntmps10
  go_wp2_with fail
  go_ret
  have hz : (w.alloc (.map #[] 0)).heap.size = w.heap.size + 1 := by simp
  have hz2 : ((w.alloc (.map #[] 0)).alloc (.cells #[.map (some w.heap.size), .int .i64 0] 54)).heap.size = w.heap.size + 2 := by simp
  refine ⟨rfl, ⟨w.heap.size, [], ⟨?_, ?_, rfl, (fun x hx => by cases hx), List.Pairwise.nil⟩, by rw [hz2]; omega, by rw [hz2]; omega, (fun e he => by cases he), fun k hk => hk.2⟩, ((Below.refl _ _).alloc (Nat.le_refl _) _).alloc (by simp) _⟩
  · have := heap_alloc_new (w.alloc (.map #[] 0)) (.cells #[.map (some w.heap.size), .int .i64 0] 54)
    rw [hz] at this
    exact this
  · exact (World.ownsMap_made w Try.prog 9 Rg).alloc _
/-- The group of a name, which is made where there is none. -/
def madeG (gs : GL) (n : List UInt8) : GL := if (getG gs n).isSome then gs else insG (n, Gr.zero) gs
end Go.Proofs.Ytdnpbhijjmlecaa

/- The group of a name is found or made. -/
namespace Go.Proofs.Ytdnpbhijjmlecaa
open Go.RowKit Go.Maps
set_option maxRecDepth 100000
set_option linter.unusedSimpArgs false
set_option linter.unusedVariables false

def FoundP (w : World) (q b : Nat) (es : List En) (S : Gs) (key : List UInt8) (e : Ending) (w' : World) : Prop :=
  ∃ es' x, e = .returned (ptr x.at_) ∧ AllC w' q b es' { S with gs := madeG S.gs key } ∧ x ∈ es' ∧ x.name = key ∧ x.g = foundG S.gs key ∧ (∀ d ∈ es', ∀ k, d.own k → (∃ c ∈ es, c.own k) ∨ w.heap.size ≤ k) ∧ Keeps (fun k => k = b) w w'
theorem new_group (w : World) : GrM ((w.alloc (.map #[] 0)).alloc (.cells #[.int .i64 0, .int .i64 0, .slice none 0 0, .slice none 0 0, .map (some w.heap.size)] 72)) (fun k => k = w.heap.size ∨ k = w.heap.size + 1) (w.heap.size + 1) Gr.zero := by
  have hz : (w.alloc (.map #[] 0)).heap.size = w.heap.size + 1 := by simp
  have hz2 : ((w.alloc (.map #[] 0)).alloc (.cells #[.int .i64 0, .int .i64 0, .slice none 0 0, .slice none 0 0, .map (some w.heap.size)] 72)).heap.size = w.heap.size + 2 := by simp
  refine ⟨.slice none 0 0, .slice none 0 0, w.heap.size, ⟨?_, ⟨rfl, .inl ⟨rfl, rfl⟩⟩, IL.nil _, ?_, In.nil _ _⟩, fun k hk => ?_, In.nil _ _, fun k hk => ?_⟩
  · have := heap_alloc_new (w.alloc (.map #[] 0)) (.cells #[.int .i64 0, .int .i64 0, .slice none 0 0, .slice none 0 0, .map (some w.heap.size)] 72)
    rw [hz] at this
    exact this
  · exact (World.ownsMap_made w Try.prog 3 Ro).alloc _
  · rcases hk with rfl | rfl | hk
    · exact .inr rfl
    · exact .inl rfl
    · cases hk
  · rw [hz2]; rcases hk with rfl | rfl <;> omega
set_option maxHeartbeats 1600000 in
theorem findOrMake_any {w : World} {q b : Nat} {es : List En} {S : Gs} (h : AllC w q b es S) (hf : es.length ≤ 1000) (n : ByteArray) (hn32 : n.size ≤ 32) : Calls Try.prog 47 #[.pointer (some ⟨q, 0, none⟩), .string n] w (FoundP w q b es S n.data.toList) := by
  have hn : n.size ≤ maxLen := by unfold maxLen; omega
  have c0 := h.c0
  have hl := h.look_ok n hn
  have hg := h.get n.data.toList
  have HH := hid h
  have HGT := hid hg
  have hq := h.qlt
  have hmm := @run_makeMap Try.prog
  unfold ptrE at hl
  clear h hg
  cases hfd : findE es n.data.toList with
  | some x =>
    rw [hfd] at hl HGT
    obtain ⟨hm, hnx⟩ := findE_mem hfd
    have HM := hid hm
    have HNX := hid hnx
    simp only [Option.isSome_some] at hl
    unfold ptr at hl
    have hP : FoundP w q b es S n.data.toList (.returned (ptr x.at_)) w := by
      refine ⟨es, x, rfl, ?_, hm, hnx, ?_, fun d hd k hk => .inl ⟨d, hd, hk⟩, Keeps.refl _ _⟩
      · have : madeG S.gs n.data.toList = S.gs := by unfold madeG; rw [HGT.out]; rfl
        rw [this]; exact HH.out
      · unfold foundG; rw [HGT.out]; rfl
    have HP := hid hP
    clear hm hfd hP hnx
    go_enter Try.func47, Try.ntmps47
    go_wp2_with fail
    go_ret
    exact HP.out
  | none =>
    rw [hfd] at hl HGT
    have hno := findE_none hfd
    simp only [Option.isSome_none] at hl
    obtain ⟨W, hW⟩ : ∃ W, W = (w.alloc (.map #[] 0)).alloc (.cells #[.int .i64 0, .int .i64 0, .slice none 0 0, .slice none 0 0, .map (some w.heap.size)] 72) := ⟨_, rfl⟩
    have hbW : Below w.heap.size w W := by rw [hW]; exact ((Below.refl _ _).alloc (Nat.le_refl _) _).alloc (by simp) _
    have HNG : Hid (GrM W (fun k => k = w.heap.size ∨ k = w.heap.size + 1) (w.heap.size + 1) Gr.zero) := by rw [hW]; exact new_group w
    have HBW := hid hbW
    have HSC := hid (fun V => sclone_any n V (by omega))
    have hA := HH.out.under hbW
    have hlt : ∀ d ∈ es, ∀ k, d.own k → k < w.heap.size := fun d hd k hdk => by obtain ⟨_, _, _, _, _, _, hz⟩ := (HH.out.each d hd).1; exact hz k hdk
    have HPUT : Hid (∀ V, Below W.heap.size W V → ∃ w', (Instr.mapUpdate 52 (.map (some b)) (.string n) (.pointer (some ⟨w.heap.size + 1, 0, none⟩))).run Try.prog V = .ok () w' ∧ w'.cell? ⟨q, 0, none⟩ = some (.map (some b)) ∧ FoundP w q b es S n.data.toList (.returned (.pointer (some ⟨w.heap.size + 1, 0, none⟩))) w') := fun V hV => by
      obtain ⟨w', h1, h2, h3⟩ := (hA.under hV).put ⟨n.data.toList, w.heap.size + 1, Gr.zero, fun k => k = w.heap.size ∨ k = w.heap.size + 1⟩ (HNG.out.under hV) (fun k hk => by have := HH.out.blt; rcases hk with rfl | rfl <;> omega) hno (fun d hd k hk hdk => by have := hlt d hd k hdk; rcases hk with rfl | rfl <;> omega) hf n hn rfl
      refine ⟨w', h1, h2.c0, insE ⟨n.data.toList, w.heap.size + 1, Gr.zero, fun k => k = w.heap.size ∨ k = w.heap.size + 1⟩ es, ⟨n.data.toList, w.heap.size + 1, Gr.zero, fun k => k = w.heap.size ∨ k = w.heap.size + 1⟩, rfl, ?_, (mem_insE _ _ _).2 (.inl rfl), rfl, ?_, fun d hd k hk => ?_, ?_⟩
      · have e : madeG S.gs n.data.toList = insG (n.data.toList, Gr.zero) S.gs := by unfold madeG; rw [HGT.out]; rfl
        rw [e]
        exact h2
      · unfold foundG; rw [HGT.out]; rfl
      · rcases (mem_insE _ _ _).1 hd with rfl | hd
        · rcases hk with rfl | rfl
          · exact .inr (Nat.le_refl _)
          · exact .inr (by omega)
        · exact .inl ⟨d, hd, hk⟩
      · exact ((Keeps.of_below (S := fun k => k = b) hbW).trans (Keeps.of_below (S := fun k => k = b) hV) (fun _ k => .inl k)).trans (Keeps.of_grown (S := fun k => k = b) h3 (fun k hk => by cases hk; rfl)) (fun _ k => .inl k)
    have HC : Hid (∀ V, Below W.heap.size W V → V.cell? ⟨q, 0, none⟩ = some (.map (some b))) := fun V hV => kept_cell (hbW.trans (hV.mono hbW.size)) c0
    have heqn : ∀ V : World, (binOp .eql 52 (.map (some b)) (.map none)).run Try.prog V = .ok (.bool false) V := fun V => by kernel_rfl
    clear hno hfd hA hlt hbW
    go_enter Try.func47, Try.ntmps47
    go_wp2_with fail
    rw [← hW]
    clear hW
    have c0W := HC.out W (Below.refl _ _)
    clear c0 hl
    go_region_held3 (fun V => V.cell? ⟨q, 0, none⟩ = some (.map (some b))) (go_keep)
      (first | (go_at_call 58; refine (HSC.out _).mono ?_; rintro e w2 ⟨rfl, hb2⟩; have HB2 := hid ((show Below W.heap.size W _ by first | exact Below.refl _ _ | exact (Below.refl _ _).drew).trans hb2); have c2 := HC.out w2 HB2.out; obtain ⟨w3, hup, c3, hfp⟩ := HPUT.out w2 HB2.out; have HFP := hid hfp; clear hfp hb2) | fail)
    go_wp2_with fail
    go_ret
    exact HFP.out
end Go.Proofs.Ytdnpbhijjmlecaa

