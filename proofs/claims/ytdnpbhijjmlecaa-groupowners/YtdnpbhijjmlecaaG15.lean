/- Leave. -/
import Derived.Test.YtdnpbhijjmlecaaG14
import Derived.Test.YtdnpbhijjmlecaaG9
import Derived.Deep.CutRange
import Derived.Deep.CutBlock
namespace Go.Proofs.Ytdnpbhijjmlecaa
open Go.RowKit Go.Maps
set_option maxRecDepth 100000
set_option linter.unusedSimpArgs false
set_option linter.unusedVariables false

/-- What a call leaves of a group, and what it tells. -/
def OutG (Z : Nat → Prop) (w w' : World) (q : Nat) (x : Gr) (t : Td) (e : Ending) : Prop := ∃ Z', GrM w' Z' q x ∧ (∀ k, Z' k → Z k ∨ w.heap.size ≤ k) ∧ Keeps Z w w' ∧ ToldP (fun b => w.heap.size ≤ b ∧ ¬ Z' b) w' t e
theorem Keeps.drew {S : Nat → Prop} {w w' : World} (h : Keeps S w w') : Keeps S w w'.drew := ⟨h.os, h.tape, h.output, h.size, h.block⟩
theorem told_own {X : Nat → Prop} {w' : World} {t : Td} {e : Ending} (h : ToldP X w' t e) (hn : t.parts = []) {Y : Nat → Prop} : ToldP Y w' t e := by
  obtain ⟨a, c, h1, h2, h3⟩ := h
  exact ⟨a, c, h1, h2, fun hne => absurd hn hne⟩
/-- A row's cell is turned, or the group's own. -/
theorem GrC.leave {w1 w2 : World} {q ob g n cap : Nat} {vp : Value} {x : Gr} (h : GrC w1 q (.slice (some ⟨g, 0, none⟩) n cap) vp ob x) {y : Gr} {v2 : Value} (hg : w1.grownBy w2 (some g)) (hm : w2.ownsRow 0 84 2 v2 y.mem.length (flatM y.mem)) (hv : v2.ownBlock = some g) (he : y.ever = x.ever) (hp : y.parts = x.parts) (ho : y.offs = x.offs) :
    GrC ((w2.setCell ⟨q, 2, none⟩ v2).setCell ⟨q, 0, none⟩ (.int .i64 y.gen)) q v2 vp ob y ∧ Keeps (Own q (.slice (some ⟨g, 0, none⟩) n cap) ob) w1 ((w2.setCell ⟨q, 2, none⟩ v2).setCell ⟨q, 0, none⟩ (.int .i64 y.gen)) := by
  have hqg : q ≠ g := fun e => h.ne_qm (by rw [e]; rfl)
  have hog : ob ≠ g := fun e => h.ne_om (by rw [e]; rfl)
  have hqo := h.ne_qo
  have hq2 := (hg.block q (h.lt (.inl rfl)) (fun e => hqg (by cases e; rfl))).trans h.cells
  have hk : Keeps (Own q (.slice (some ⟨g, 0, none⟩) n cap) ob) w1 ((w2.setCell ⟨q, 2, none⟩ v2).setCell ⟨q, 0, none⟩ (.int .i64 y.gen)) :=
    ((Keeps.of_grown (S := Own q (.slice (some ⟨g, 0, none⟩) n cap) ob) hg (fun k hk => by cases hk; exact .inr (.inr rfl))).trans (Keeps.set (S := Own q (.slice (some ⟨g, 0, none⟩) n cap) ob) w2 (a := ⟨q, 2, none⟩) (.inl rfl) v2) (fun _ k => .inl k)).trans (Keeps.set (S := Own q (.slice (some ⟨g, 0, none⟩) n cap) ob) _ (a := ⟨q, 0, none⟩) (.inl rfl) _) (fun _ k => .inl k)
  have hsb := fun b (hb : b ≠ q) => (Below.heap_setCell (w2.setCell ⟨q, 2, none⟩ v2) ⟨q, 0, none⟩ (.int .i64 y.gen) b hb).trans (Below.heap_setCell w2 ⟨q, 2, none⟩ v2 b hb)
  refine ⟨⟨?_, ?_, ?_, ?_, ?_⟩, hk⟩
  · have := set_box (j := 0) (v := .int .i64 y.gen) (set_box (j := 2) (v := v2) hq2)
    rw [this, he]
    rfl
  · exact row_kept hm (fun k hk => by rw [hv] at hk; cases hk; exact hsb _ hqg.symm)
  · rw [hp]; exact h.parts.keeps hk h.apart
  · rw [ho]
    obtain ⟨es, clock, hmm, r⟩ := h.offs
    exact ⟨es, clock, ((hsb ob hqo.symm).trans (hg.block ob (h.lt (.inr (.inl rfl))) (fun e => hog (by cases e; rfl)))).trans hmm, r⟩
  · rw [hp]
    intro hn b off n' c e hb
    refine h.apart hn b off n' c e ?_
    rcases hb with hb | hb | hb
    · exact .inl hb
    · exact .inr (.inl hb)
    · exact .inr (.inr (by rw [hv] at hb; exact hb))
set_option maxHeartbeats 3200000 in
theorem leave_any {w : World} {Z : Nat → Prop} {q : Nat} {x : Gr} (h : GrM w Z q x) (hf : x.mem.length ≤ 1000) (hg : -1 ≤ x.gen ∧ x.gen ≤ 1000000000) (m : Rc) (la : Option Addr) (ln lc : Nat) :
    Calls Try.prog 60 #[.pointer (some ⟨q, 0, none⟩), recV m (.slice la ln lc)] w fun e w' => OutG Z w w' q (leaveI x m).1 (leaveI x m).2 e := by
  obtain ⟨vm, vp, ob, h, ho, hin, hz⟩ := h
  have hT := tb_new Z w (recA m (.slice la ln lc)) zTd
  have HT := hid hT
  have hbW : Below w.heap.size w ((w.alloc (.cells (recA m (.slice la ln lc)) 32)).alloc (.cells zTd 36)) := (tb_new (fun _ => False) w (recA m (.slice la ln lc)) zTd).k.base
  have HBW := hid hbW
  have HG := hid (h.under hbW)
  have HO := hid ho
  have HIN := hid hin
  have HZ := hid hz
  have HP := hid (place_any HG.out.read hf m.a)
  have a1 := cell_blk hT.x 1 _ rfl
  have hq := h.lt (.inl rfl)
  have HC : Hid (∀ V, Below ((w.alloc (.cells (recA m (.slice la ln lc)) 32)).alloc (.cells zTd 36)).heap.size ((w.alloc (.cells (recA m (.slice la ln lc)) 32)).alloc (.cells zTd 36)) V → V.cell? ⟨w.heap.size, 1, none⟩ = some (.int .i64 m.a) ∧ TB Z w V (recA m (.slice la ln lc)) zTd) := fun V hV => ⟨kept_cell hV a1, HT.out.under hV⟩
  have HOL : Hid (∀ k, Own q vm ob k → k < w.heap.size) := fun k hk => hz k (ho k hk)
  unfold recV recA zTd at *
  clear h hT hbW ho hin hz
  cases hp : placeN x.mem m.a with
  | none =>
    have HTOLD : Hid (leaveI x m = (x, errT 17)) := by show _ = _; unfold leaveI; rw [hp]
    have hpi : placeI x.mem m.a = -1 := by unfold placeI; rw [hp]
    rw [hpi] at HP
    rw [HTOLD.out]
    clear hp hpi HTOLD
    go_enter Try.func60, Try.ntmps60
    go_wp2_with fail
    generalize (w.alloc (.cells #[.int .i64 m.kind, .int .i64 m.a, .int .i64 m.b, .int .i64 m.c, .int .i64 m.d, .string m.name, .string m.text, .slice la ln lc] 32)).alloc (.cells #[.int .i64 0, .int .i64 0, .int .i64 0, .int .i64 0, .slice none 0 0] 36) = W at *
    refine HP.out.mono ?_
    rintro e w1 ⟨rfl, hb1⟩
    obtain ⟨b1, ht1⟩ := HC.out w1 hb1
    have z0 := cell_blk ht1.z 0 _ rfl
    have z1 := cell_blk ht1.z 1 _ rfl
    have z2 := cell_blk ht1.z 2 _ rfl
    have z3 := cell_blk ht1.z 3 _ rfl
    have z4 := cell_blk ht1.z 4 _ rfl
    have fz := frz_blk ht1.z
    have HT1 := hid ht1
    have HB1 := hid hb1
    clear hb1 ht1 a1
    go_wp2_with fail
    clear z0 z1 z2 z3 z4 fz
    have HT5 := hid ((HT1.out).five rfl (.int .i64 17) (.int .i64 0) (.int .i64 0) (.int .i64 0) (.slice none 0 0))
    have HK5 := hid (five_keeps (w1) (w.heap.size + 1) (.int .i64 17) (.int .i64 0) (.int .i64 0) (.int .i64 0) (.slice none 0 0))
    unfold five at HT5 HK5
    generalize ((((w1.setCell ⟨w.heap.size + 1, 0, none⟩ (.int .i64 17)).setCell ⟨w.heap.size + 1, 1, none⟩ (.int .i64 0)).setCell ⟨w.heap.size + 1, 2, none⟩ (.int .i64 0)).setCell ⟨w.heap.size + 1, 3, none⟩ (.int .i64 0)).setCell ⟨w.heap.size + 1, 4, none⟩ (.slice none 0 0) = N5 at *
    have r0 := cell_blk HT5.out.z 0 _ rfl
    have r1 := cell_blk HT5.out.z 1 _ rfl
    have r2 := cell_blk HT5.out.z 2 _ rfl
    have r3 := cell_blk HT5.out.z 3 _ rfl
    have r4 := cell_blk HT5.out.z 4 _ rfl
    exact bodyPost_ret (v := .agg #[.int .i64 17, .int .i64 0, .int .i64 0, .int .i64 0, .slice none 0 0]) (by simp [results, Try.results60, go_sem, r0, r1, r2, r3, r4]) rfl (⟨Z, ⟨vm, vp, ob, (HG.out.under HB1.out).kept HO.out HIN.out (fun k hk => HK5.out.block k (by have := HZ.out k hk; have := HT1.out.s; omega) (fun e => by have := HZ.out k hk; omega)) HK5.out.size, HO.out, HIN.out, fun k hk => Nat.lt_of_lt_of_le (HZ.out k hk) HT5.out.k.size⟩, fun k hk => .inl hk, HT5.out.k, told_nil⟩)
  | some p =>
    obtain ⟨mb, hmb, hid1, hpl⟩ := place_some hp
    have HTOLD : Hid (leaveI x m = ({ x with mem := x.mem.eraseIdx p, gen := x.gen + 1 }, ⟨0, m.a, x.gen + 1, 0, []⟩)) := by show _ = _; unfold leaveI; rw [hp]
    have hpi : placeI x.mem m.a = p := by unfold placeI; rw [hp]
    rw [hpi] at HP
    rw [HTOLD.out]
    clear hp hpi HTOLD hmb hid1
    obtain ⟨oa, cap, rfl, hcap, hcm, _, hat⟩ := row_shape HG.out.mem
    obtain ⟨g, rfl⟩ := hat (by omega)
    have hpl' : ¬ (p : Int) < 0 := by omega
    have hpw : IntKind.i64.wrap ((p : Int) + 1) = (p : Int) + 1 := IntWalk.i64_in _ ⟨by omega, by omega⟩
    have HDEL : Hid (∀ V, Below ((w.alloc (.cells (recA m (.slice la ln lc)) 32)).alloc (.cells zTd 36)).heap.size ((w.alloc (.cells (recA m (.slice la ln lc)) 32)).alloc (.cells zTd 36)) V → Calls Try.prog 71 #[.slice (some ⟨g, 0, none⟩) x.mem.length cap, .int .i64 (p : Int), .int .i64 ((p : Int) + 1)] V fun e w' => e = .returned (.slice (some ⟨g, 0, none⟩) (x.mem.eraseIdx p).length cap) ∧ w'.ownsRow 0 84 2 (.slice (some ⟨g, 0, none⟩) (x.mem.eraseIdx p).length cap) (x.mem.eraseIdx p).length (flatM (x.mem.eraseIdx p)) ∧ V.grownBy w' (some g)) := fun V hV => delete_any (HG.out.under hV).mem hf p hpl
    have HLV : Hid (∀ V w2, Below ((w.alloc (.cells (recA m (.slice la ln lc)) 32)).alloc (.cells zTd 36)).heap.size ((w.alloc (.cells (recA m (.slice la ln lc)) 32)).alloc (.cells zTd 36)) V → V.grownBy w2 (some g) → w2.ownsRow 0 84 2 (.slice (some ⟨g, 0, none⟩) (x.mem.eraseIdx p).length cap) (x.mem.eraseIdx p).length (flatM (x.mem.eraseIdx p)) → GrC ((w2.setCell ⟨q, 2, none⟩ (.slice (some ⟨g, 0, none⟩) (x.mem.eraseIdx p).length cap)).setCell ⟨q, 0, none⟩ (.int .i64 (x.gen + 1))) q (.slice (some ⟨g, 0, none⟩) (x.mem.eraseIdx p).length cap) vp ob { x with mem := x.mem.eraseIdx p, gen := x.gen + 1 } ∧ Keeps (Own q (.slice (some ⟨g, 0, none⟩) x.mem.length cap) ob) V ((w2.setCell ⟨q, 2, none⟩ (.slice (some ⟨g, 0, none⟩) (x.mem.eraseIdx p).length cap)).setCell ⟨q, 0, none⟩ (.int .i64 (x.gen + 1)))) := fun V w2 hV hg2 hr2 => GrC.leave (y := { x with mem := x.mem.eraseIdx p, gen := x.gen + 1 }) (HG.out.under hV) hg2 hr2 rfl rfl rfl rfl
    have HQC : Hid (∀ V w2, Below ((w.alloc (.cells (recA m (.slice la ln lc)) 32)).alloc (.cells zTd 36)).heap.size ((w.alloc (.cells (recA m (.slice la ln lc)) 32)).alloc (.cells zTd 36)) V → V.grownBy w2 (some g) → w2.heap[q]? = some (.cells #[.int .i64 x.gen, .int .i64 x.ever, .slice (some ⟨g, 0, none⟩) x.mem.length cap, vp, .map (some ob)] 72 (0, 0))) := fun V w2 hV hg2 => (hg2.block q ((HG.out.under hV).lt (.inl rfl)) (fun e => (HG.out.under hV).ne_qm (by cases e; rfl))).trans (HG.out.under hV).cells
    have c2 : ∀ V, Below ((w.alloc (.cells (recA m (.slice la ln lc)) 32)).alloc (.cells zTd 36)).heap.size ((w.alloc (.cells (recA m (.slice la ln lc)) 32)).alloc (.cells zTd 36)) V → V.cell? ⟨q, 2, none⟩ = some (.slice (some ⟨g, 0, none⟩) x.mem.length cap) := fun V hV => (HG.out.under hV).read.c2
    have HC2 := hid c2
    have hgw : IntKind.i64.wrap (x.gen + 1) = x.gen + 1 := IntWalk.i64_in _ ⟨by omega, by omega⟩
    have hml : (x.mem.length : Int) ≤ 1000 := by omega
    clear hat hcap hcm c2
    unfold recA zTd at *
    generalize (x.mem.eraseIdx p).length = N at *
    obtain ⟨M, hM⟩ : ∃ M, M = x.mem.eraseIdx p := ⟨_, rfl⟩
    rw [← hM] at HDEL HLV ⊢
    clear hM
    obtain ⟨y, hy⟩ : ∃ y : Gr, y = { x with mem := M, gen := x.gen + 1 } := ⟨_, rfl⟩
    have HYP : Hid (y.parts = x.parts) := by show _ = _; rw [hy]
    rw [← hy] at HLV ⊢
    clear hy
    go_enter Try.func60, Try.ntmps60
    go_wp2_with fail
    generalize (w.alloc (.cells #[.int .i64 m.kind, .int .i64 m.a, .int .i64 m.b, .int .i64 m.c, .int .i64 m.d, .string m.name, .string m.text, .slice la ln lc] 32)).alloc (.cells #[.int .i64 0, .int .i64 0, .int .i64 0, .int .i64 0, .slice none 0 0] 36) = W at *
    refine HP.out.mono ?_
    rintro e w1 ⟨rfl, hb1⟩
    obtain ⟨b1, ht1⟩ := HC.out w1 hb1
    have HT1 := hid ht1
    have HB1 := hid hb1
    have c2 := HC2.out w1 hb1
    clear hb1 ht1 a1
    go_wp2_with fail
    refine (HDEL.out _ HB1.out).mono ?_
    rintro e w2 ⟨rfl, hr2, hg2⟩
    obtain ⟨gc3, k3⟩ := HLV.out w1 w2 HB1.out hg2 hr2
    have hq2 := HQC.out w1 w2 HB1.out hg2
    have q2 := cell_blk hq2 2 _ rfl
    have q0 := cell_blk hq2 0 _ rfl
    have fq := frz_blk hq2
    have HG3 := hid gc3
    have HK3 := hid k3
    have ht3 := HT1.out.next k3 (fun k hk => .inl (HO.out k hk)) (fun hk => by have := HOL.out _ hk; omega) (fun hk => by have := HOL.out _ hk; omega)
    have HT3 := hid ht3
    have b1' : ((w2.setCell ⟨q, 2, none⟩ (.slice (some ⟨g, 0, none⟩) N cap)).setCell ⟨q, 0, none⟩ (.int .i64 (x.gen + 1))).cell? ⟨w.heap.size, 1, none⟩ = some (.int .i64 m.a) := cell_blk ht3.x 1 _ rfl
    have g0' : ((w2.setCell ⟨q, 2, none⟩ (.slice (some ⟨g, 0, none⟩) N cap)).setCell ⟨q, 0, none⟩ (.int .i64 (x.gen + 1))).cell? ⟨q, 0, none⟩ = some (.int .i64 (x.gen + 1)) := cell_blk (set_box (j := 0) (v := .int .i64 (x.gen + 1)) (set_box (j := 2) (v := .slice (some ⟨g, 0, none⟩) N cap) hq2)) 0 _ rfl
    have B1' := hid b1'
    have G0' := hid g0'
    clear hr2 hg2 gc3 k3 hq2 ht3 b1' g0' c2 b1 HLV HQC HC2 HDEL HP
    go_upto_region 6 with fail
    have b1' := B1'.out
    have g0' := G0'.out
    clear q2 q0 fq
    generalize (w2.setCell ⟨q, 2, none⟩ (.slice (some ⟨g, 0, none⟩) N cap)).setCell ⟨q, 0, none⟩ (.int .i64 (x.gen + 1)) = W3 at *
    have z0 := cell_blk HT3.out.z 0 _ rfl
    have z1 := cell_blk HT3.out.z 1 _ rfl
    have z2 := cell_blk HT3.out.z 2 _ rfl
    have z3 := cell_blk HT3.out.z 3 _ rfl
    have z4 := cell_blk HT3.out.z 4 _ rfl
    have fz := frz_blk HT3.out.z
    have hn1 : ¬ q = w.heap.size + 1 := by omega
    have hn2 : ¬ w.heap.size + 1 = q := by omega
    go_wp2_with fail
    go_region_held3 (fun V => V.cell? ⟨q, 0, none⟩ = some (.int .i64 (x.gen + 1)) ∧ V.cell? ⟨w.heap.size, 1, none⟩ = some (.int .i64 m.a)) (go_keep) (fail)
    go_wp2_with fail
    clear z0 z1 z2 z3 z4 fz
    have HT5 := hid ((HT3.out).five rfl (.int .i64 0) (.int .i64 m.a) (.int .i64 (x.gen + 1)) (.int .i64 0) (.slice none 0 0))
    have HK5 := hid (five_keeps (W3) (w.heap.size + 1) (.int .i64 0) (.int .i64 m.a) (.int .i64 (x.gen + 1)) (.int .i64 0) (.slice none 0 0))
    unfold five at HT5 HK5
    generalize ((((W3.setCell ⟨w.heap.size + 1, 0, none⟩ (.int .i64 0)).setCell ⟨w.heap.size + 1, 1, none⟩ (.int .i64 m.a)).setCell ⟨w.heap.size + 1, 2, none⟩ (.int .i64 (x.gen + 1))).setCell ⟨w.heap.size + 1, 3, none⟩ (.int .i64 0)).setCell ⟨w.heap.size + 1, 4, none⟩ (.slice none 0 0) = N5 at *
    have r0 := cell_blk HT5.out.z 0 _ rfl
    have r1 := cell_blk HT5.out.z 1 _ rfl
    have r2 := cell_blk HT5.out.z 2 _ rfl
    have r3 := cell_blk HT5.out.z 3 _ rfl
    have r4 := cell_blk HT5.out.z 4 _ rfl
    exact bodyPost_ret (v := .agg #[.int .i64 0, .int .i64 m.a, .int .i64 (x.gen + 1), .int .i64 0, .slice none 0 0]) (by simp [results, Try.results60, go_sem, r0, r1, r2, r3, r4]) rfl (by
      have hnz : ∀ k, Own q (.slice (some ⟨g, 0, none⟩) N cap) ob k → Z k := fun k hk => HO.out k (hk.elim .inl (fun h => h.elim (fun h => .inr (.inl h)) (fun h => .inr (.inr h))))
      have hin3 : In Z vp y.parts := by rw [HYP.out]; exact HIN.out
      exact ⟨Z, ⟨.slice (some ⟨g, 0, none⟩) N cap, vp, ob, (HG3.out.kept hnz hin3 (fun k hk => HK5.out.block k (by have := HZ.out k hk; have := HT3.out.s; omega) (fun e => by have := HZ.out k hk; omega)) HK5.out.size).under (Below.refl _ _).drew, hnz, hin3, fun k hk => Nat.lt_of_lt_of_le (HZ.out k hk) HT5.out.k.drew.size⟩, fun k hk => .inl hk, HT5.out.k.drew, told_nil⟩)
end Go.Proofs.Ytdnpbhijjmlecaa
