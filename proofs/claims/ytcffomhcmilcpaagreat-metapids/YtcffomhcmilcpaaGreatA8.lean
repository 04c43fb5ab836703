/- A state is put into its place. -/
import Derived.Test.YtcffomhcmilcpaaGreatA5
import Derived.Test.YtcffomhcmilcpaaGreatM10
namespace Go.Proofs.YtcffomhcmilcpaaGreat
open Go.RowKit Go.Maps
set_option maxRecDepth 100000
set_option linter.unusedSimpArgs false
set_option linter.unusedVariables false

theorem ImOk.part {I : Im} (h : ImOk I) {p : Pt} (hp : RightP p) (i : Nat) (hi : p.id = (i : Int) + 1) : ImOk { I with parts := I.parts.set i p } := by
  refine ⟨h.keys, h.brs, fun j r hr => ?_, by simpa using h.few, h.tops, h.name, h.nums, h.eps, h.epv, h.app⟩
  simp only [List.getElem?_set] at hr
  split at hr
  · rename_i e
    split at hr
    · cases hr
      subst e
      exact ⟨hp, hi⟩
    · cases hr
  · exact h.parts j r hr
/-- What take leaves. -/
theorem ImC.take {w N : World} {L X : Nat → Prop} {q b : Nat} {vt ve : Value} {g n cap : Nat} {ps : List (Value × Pt)} {I : Im} (h : ImC w L q b vt (.slice (some ⟨g, 0, none⟩) n cap) ve ps I) {v : Value} {p : Pt} (hv : PartM w v p) (hX : InP X v p) (hXo : ∀ k, X k → k < w.heap.size ∧ ¬ Own q b vt (.slice (some ⟨g, 0, none⟩) n cap) ve k)
    (hp : RightP p) (i : Nat) (hi : i < ps.length) (hid : p.id = (i : Int) + 1) (hN : PutsR w N g (i * 9) (pc v)) : ImC N (fun k => L k ∨ X k) q b vt (.slice (some ⟨g, 0, none⟩) n cap) ve (ps.set i (v, p)) { I with parts := I.parts.set i p } := by
  have hg : Own q b vt (.slice (some ⟨g, 0, none⟩) n cap) ve g := .inr (.inr (.inr (.inl rfl)))
  have hgq : q ≠ g := fun e => h.ne_q.2.1 (by rw [e]; rfl)
  have hgb : b ≠ g := fun e => h.ne_b.2.1 (by rw [e]; rfl)
  have hs : w.heap.size ≤ N.heap.size := by rw [hN.size]; exact Nat.le_refl _
  refine ⟨(hN.other q hgq).trans h.cells, ?_, row_kept h.tops (fun k hk => hN.other k (fun e => by subst e; exact h.ne_rows.1 hk rfl)), row_set h.parts h.part9 i hi (pc_part hv) hN, row_kept h.eps (fun k hk => hN.other k (fun e => by subst e; exact h.ne_rows.2.2 rfl hk)), fun x hx => ?_, ?_, fun k hk => ?_, h.ok.part hp i hid⟩
  · obtain ⟨es, clock, hm, r⟩ := h.bmap
    exact ⟨es, clock, (hN.other b hgb).trans hm, r⟩
  · rcases List.mem_or_eq_of_mem_set hx with hx | rfl
    · obtain ⟨h1, h2⟩ := h.each x hx
      exact ⟨h1.kept h2 (fun k hk => hN.other k (fun e => by subst e; exact (h.lists k hk).2 hg)) hs, h2.mono fun k hk => .inl hk⟩
    · exact ⟨hv.kept hX (fun k hk => hN.other k (fun e => by subst e; exact (hXo k hk).2 hg)) hs, hX.mono fun k hk => .inr hk⟩
  · rw [h.abs]
    simp [List.map_set]
  · rw [hN.size]
    rcases hk with hk | hk
    · exact h.lists k hk
    · exact hXo k hk
set_option maxHeartbeats 1600000 in
theorem take_no {w : World} (q : Nat) {v : Value} {p : Pt} (hv : PartM w v p) (e : Int) (he : e ≠ 0) (he2 : I64 e) : Calls Tryz.prog 117 #[.pointer (some ⟨q, 0, none⟩), v, .int .i64 e] w fun r w' => r = .returned (.tuple #[]) ∧ Below w.heap.size w w' := by
  unfold I64 at he2
  obtain ⟨x1, y1, x2, y2, x3, y3, x4, y4, rfl, _⟩ := hv.open
  have he' : (e == 0) = false := by simp [he]
  go_enter Tryz.func117, Tryz.ntmps117
  go_wp2_with fail
  go_end0
  exact ⟨rfl, (Below.refl _ _).alloc (Nat.le_refl _) _⟩
set_option maxHeartbeats 3200000 in
theorem take_yes {w : World} {L X : Nat → Prop} {q b : Nat} {vt ve : Value} {g n cap : Nat} {ps : List (Value × Pt)} {I : Im} (h : ImC w L q b vt (.slice (some ⟨g, 0, none⟩) n cap) ve ps I) {v : Value} {p : Pt} (hv : PartM w v p) (hX : InP X v p) (hXo : ∀ k, X k → k < w.heap.size ∧ ¬ Own q b vt (.slice (some ⟨g, 0, none⟩) n cap) ve k)
    (hp : RightP p) (i : Nat) (hi : i < ps.length) (hid' : p.id = (i : Int) + 1) : Calls Tryz.prog 117 #[.pointer (some ⟨q, 0, none⟩), v, .int .i64 0] w fun r w' => r = .returned (.tuple #[]) ∧ ImC w' (fun k => L k ∨ X k) q b vt (.slice (some ⟨g, 0, none⟩) n cap) ve (ps.set i (v, p)) { I with parts := I.parts.set i p } ∧ Keeps (fun k => k = g) w w' := by
  have hn : n = ps.length := by obtain ⟨_, _, e, _⟩ := row_shape h.parts; cases e; rfl
  obtain ⟨x1, y1, x2, y2, x3, y3, x4, y4, rfl, _⟩ := hv.open
  have hbA : Below w.heap.size w (w.alloc (.cells #[.int .i64 p.id, .int .i64 p.leader, .int .i64 p.epoch, .int .i64 p.ver, .slice x1 p.isr.length y1, .slice x2 p.reps.length y2, .slice x3 p.add.length y3, .slice x4 p.rem.length y4, .int .i64 p.min] 54)) := (Below.refl _ _).alloc (Nat.le_refl _) _
  have HTK : Hid (∀ N, PutsR (w.alloc (.cells #[.int .i64 p.id, .int .i64 p.leader, .int .i64 p.epoch, .int .i64 p.ver, .slice x1 p.isr.length y1, .slice x2 p.reps.length y2, .slice x3 p.add.length y3, .slice x4 p.rem.length y4, .int .i64 p.min] 54)) N g (i * 9) [.int .i64 p.id, .int .i64 p.leader, .int .i64 p.epoch, .int .i64 p.ver, .slice x1 p.isr.length y1, .slice x2 p.reps.length y2, .slice x3 p.add.length y3, .slice x4 p.rem.length y4, .int .i64 p.min] → ImC N.drew (fun k => L k ∨ X k) q b vt (.slice (some ⟨g, 0, none⟩) n cap) ve (ps.set i (.agg #[.int .i64 p.id, .int .i64 p.leader, .int .i64 p.epoch, .int .i64 p.ver, .slice x1 p.isr.length y1, .slice x2 p.reps.length y2, .slice x3 p.add.length y3, .slice x4 p.rem.length y4, .int .i64 p.min], p)) { I with parts := I.parts.set i p } ∧ Keeps (fun k => k = g) w N.drew) := fun N hN =>
    ⟨((h.under hbA).take (hv.under hbA) hX (fun k hk => ⟨Nat.lt_of_lt_of_le (hXo k hk).1 hbA.size, (hXo k hk).2⟩) hp i hi hid' hN).under (Below.refl _ _).drew, ((Keeps.of_below hbA).trans (hN.keeps (S := fun k => k = g) rfl) (fun x hx => .inl hx)).trans (Keeps.of_below (S := fun k => k = g) (Below.refl _ _).drew) (fun x hx => .inl hx)⟩
  have hi7 : i < 16 := Nat.lt_of_lt_of_le hi (by have := h.plen; have := h.ok.few; omega)
  have hin : (i : Int) < (n : Int) := by omega
  have hglt : g < w.heap.size := h.lt (.inr (.inr (.inr (.inl rfl))))
  have hqlt : q < w.heap.size := h.lt (.inl rfl)
  have h1 := h.under hbA
  have c3 := h1.c3
  have hgq : ¬ q = g := fun e => h.ne_q.2.1 (by rw [e]; rfl)
  have hxi : ps[i]? = some ps[i] := List.getElem?_eq_getElem hi
  have hr := fun t ht u hu => (h1.at_ i _ hxi t ht u hu)
  have hpm := (h.each ps[i] (by simp)).1
  obtain ⟨cur, hcur⟩ := row_blk h1.parts (k := g) rfl
  have fr := fun j => frz_blk hcur j
  obtain ⟨u1, u2, u3, u4, hu, _⟩ := hpm
  rw [hu] at hr
  generalize ps[i].2 = po at *
  have hB := heap_alloc_new w (.cells #[.int .i64 p.id, .int .i64 p.leader, .int .i64 p.epoch, .int .i64 p.ver, .slice x1 p.isr.length y1, .slice x2 p.reps.length y2, .slice x3 p.add.length y3, .slice x4 p.rem.length y4, .int .i64 p.min] 54)
  have r0 := hr 0 (by decide) _ rfl
  have b0 := cell_blk hB 0 _ rfl
  have r1 := hr 1 (by decide) _ rfl
  have b1 := cell_blk hB 1 _ rfl
  have r2 := hr 2 (by decide) _ rfl
  have b2 := cell_blk hB 2 _ rfl
  have r3 := hr 3 (by decide) _ rfl
  have b3 := cell_blk hB 3 _ rfl
  have r4 := hr 4 (by decide) _ rfl
  have b4 := cell_blk hB 4 _ rfl
  have r5 := hr 5 (by decide) _ rfl
  have b5 := cell_blk hB 5 _ rfl
  have r6 := hr 6 (by decide) _ rfl
  have b6 := cell_blk hB 6 _ rfl
  have r7 := hr 7 (by decide) _ rfl
  have b7 := cell_blk hB 7 _ rfl
  have r8 := hr 8 (by decide) _ rfl
  have b8 := cell_blk hB 8 _ rfl
  rw [Nat.add_zero] at r0
  have f0 := fr (i * 9)
  have f1 := fr (i * 9 + 1)
  have f2 := fr (i * 9 + 2)
  have f3 := fr (i * 9 + 3)
  have f4 := fr (i * 9 + 4)
  have f5 := fr (i * 9 + 5)
  have f6 := fr (i * 9 + 6)
  have f7 := fr (i * 9 + 7)
  have f8 := fr (i * 9 + 8)
  have hid2 : p.id - 1 = (i : Int) := by omega
  have hw1 : IntKind.i64.wrap (p.id - 1) = (i : Int) := by rw [hid2]; exact IntWalk.i64_in _ ⟨by omega, by omega⟩
  have hne2 : ¬ g = w.heap.size := by omega
  have hne3 : ¬ w.heap.size = g := by omega
  clear hr fr hu hxi h h1 hv hX hXo hcur hid' hid2 hB hbA hn hi hqlt hglt
  go_enter Tryz.func117, Tryz.ntmps117
  go_upto_region 2 with fail
  generalize w.alloc (.cells #[.int .i64 p.id, .int .i64 p.leader, .int .i64 p.epoch, .int .i64 p.ver, .slice x1 p.isr.length y1, .slice x2 p.reps.length y2, .slice x3 p.add.length y3, .slice x4 p.rem.length y4, .int .i64 p.min] 54) = W at *
  obtain ⟨x, hx⟩ : ∃ x, x = w.heap.size := ⟨_, rfl⟩
  rw [← hx] at b0 b1 b2 b3 b4 b5 b6 b7 b8 hne2 hne3 ⊢
  clear hx
  have HEND := hid (HTK.out (puts W g (i * 9) [.int .i64 p.id, .int .i64 p.leader, .int .i64 p.epoch, .int .i64 p.ver, .slice x1 p.isr.length y1, .slice x2 p.reps.length y2, .slice x3 p.add.length y3, .slice x4 p.rem.length y4, .int .i64 p.min]) (puts_all [.int .i64 p.id, .int .i64 p.leader, .int .i64 p.epoch, .int .i64 p.ver, .slice x1 p.isr.length y1, .slice x2 p.reps.length y2, .slice x3 p.add.length y3, .slice x4 p.rem.length y4, .int .i64 p.min] W g (i * 9)))
  go_region_with (fail)
  all_goals
    go_wp2_with fail
    go_end0
    exact ⟨rfl, HEND.out⟩
end Go.Proofs.YtcffomhcmilcpaaGreat
