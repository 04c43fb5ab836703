/- No kind; Epoch. -/
import Derived.Test.YtdnpbhijjmlecaaZ4
import Derived.Test.YtdnpbhijjmlecaaZ2
import Derived.Deep.CutRange
import Derived.Deep.CutBlock
namespace Go.Proofs.Ytdnpbhijjmlecaa
open Go.RowKit Go.Maps
set_option maxRecDepth 100000
set_option linter.unusedSimpArgs false
set_option linter.unusedVariables false

/-- What a call leaves of all groups, and what it tells. -/
def OutA (Z : Nat → Prop) (w w' : World) (q : Nat) (S : Gs) (t : Td) (e : Ending) : Prop := ∃ Z', AllM w' Z' q S ∧ (∀ k, Z' k → Z k ∨ w.heap.size ≤ k) ∧ Keeps Z w w' ∧ ToldP (fun b => w.heap.size ≤ b ∧ ¬ Z' b) w' t e
theorem AllM.q {w : World} {Z : Nat → Prop} {q : Nat} {S : Gs} (h : AllM w Z q S) : Z q := by obtain ⟨b, es, h1, h2, _⟩ := h; exact h2
theorem AllM.z {w : World} {Z : Nat → Prop} {q : Nat} {S : Gs} (h : AllM w Z q S) : ∀ k, Z k → k < w.heap.size := by obtain ⟨b, es, h1, h2, _, _, h5⟩ := h; exact h5
set_option maxHeartbeats 1600000 in
theorem refuse_any {w : World} {Z : Nat → Prop} {q : Nat} {S : Gs} (h : AllM w Z q S) (m : Rc) (la : Option Addr) (ln lc : Nat) :
    Calls Try.prog 41 #[.pointer (some ⟨q, 0, none⟩), recV m (.slice la ln lc)] w fun e w' => OutA Z w w' q S (errT 1) e := by
  have hT := tb_new Z w (recA m (.slice la ln lc)) zTd
  have HT := hid hT
  have HH := hid h
  have hbW : Below w.heap.size w ((w.alloc (.cells (recA m (.slice la ln lc)) 32)).alloc (.cells zTd 36)) := (tb_new (fun _ => False) w (recA m (.slice la ln lc)) zTd).k.base
  have HBW := hid hbW
  unfold recV recA zTd at *
  clear h hT hbW
  go_enter Try.func41, Try.ntmps41
  go_wp2_with fail
  have hb2 : Below w.heap.size w ((w.alloc (.cells #[.int .i64 m.kind, .int .i64 m.a, .int .i64 m.b, .int .i64 m.c, .int .i64 m.d, .string m.name, .string m.text, .slice la ln lc] 32)).alloc (.cells #[.int .i64 1, .int .i64 0, .int .i64 0, .int .i64 0, .slice none 0 0] 36)) := ((Below.refl _ _).alloc (Nat.le_refl _) _).alloc (by simp) _
  exact bodyPost_ret (v := .agg #[.int .i64 1, .int .i64 0, .int .i64 0, .int .i64 0, .slice none 0 0]) (by simp [results, Try.results41, go_sem]) rfl ⟨Z, HH.out.under hb2, fun k hk => .inl hk, Keeps.of_below hb2, told_nil⟩
theorem AllC.epoch {w : World} {q b : Nat} {es : List En} {S : Gs} (h : AllC w q b es S) (n : Int) : AllC (w.setCell ⟨q, 1, none⟩ (.int .i64 n)) q b es { S with epoch := n } := by
  have hk : ∀ k, k ≠ q → (w.setCell ⟨q, 1, none⟩ (.int .i64 n)).heap[k]? = w.heap[k]? := fun k hk => Below.heap_setCell _ _ _ _ hk
  refine ⟨by have := set_box (j := 1) (v := .int .i64 n) h.cells; exact this, ?_, h.abs, fun e he => ⟨(h.each e he).1.kept (fun k hk2 => hk k ((h.each e he).2 k hk2).1) (by simp), (h.each e he).2⟩, h.apart⟩
  obtain ⟨xs, clock, hm, r⟩ := h.bmap
  exact ⟨xs, clock, (hk b h.ne_qb.symm).trans hm, r⟩
set_option maxHeartbeats 1600000 in
theorem begin_any {w : World} {Z : Nat → Prop} {q : Nat} {S : Gs} (h : AllM w Z q S) (m : Rc) (hrc : RcOk m) (hep : I64 S.epoch) (la : Option Addr) (ln lc : Nat) :
    Calls Try.prog 40 #[.pointer (some ⟨q, 0, none⟩), recV m (.slice la ln lc)] w fun e w' => OutA Z w w' q (epochI S m).1 (epochI S m).2 e := by
  have hT := tb_new Z w (recA m (.slice la ln lc)) zTd
  have HT := hid hT
  have HH := hid h
  have hbW : Below w.heap.size w ((w.alloc (.cells (recA m (.slice la ln lc)) 32)).alloc (.cells zTd 36)) := (tb_new (fun _ => False) w (recA m (.slice la ln lc)) zTd).k.base
  have HBW := hid hbW
  have hz := h.z
  have hZq := h.q
  have hq := hz q hZq
  obtain ⟨b, es, hA, h2, h3, h4, h5⟩ := h
  have HA := hid (hA.under hbW)
  have HZ := hid h5
  have HZB := hid h3
  have HZE := hid h4
  have a1 := cell_blk hT.x 1 _ rfl
  have c1 := HA.out.c1
  have z0 := cell_blk hT.z 0 _ rfl
  have z1 := cell_blk hT.z 1 _ rfl
  have z2 := cell_blk hT.z 2 _ rfl
  have z3 := cell_blk hT.z 3 _ rfl
  have z4 := cell_blk hT.z 4 _ rfl
  have fz := frz_blk hT.z
  have hn1 : ¬ q = w.heap.size + 1 := by omega
  have hn2 : ¬ w.heap.size + 1 = q := by omega
  have hn3 : ¬ q = w.heap.size := by omega
  have hn4 : ¬ w.heap.size = q := by omega
  obtain ⟨hra1, hra2⟩ := hrc.2.1
  obtain ⟨he1, he2⟩ := hep
  have HEP : Hid (epochI S m = if m.a < S.epoch then (S, errT 13) else ({ S with epoch := m.a }, ⟨0, 0, m.a, 0, []⟩)) := rfl
  unfold recV recA zTd at *
  rw [HEP.out]
  clear hT hbW hA h3 h4 h5 hz hrc HEP
  by_cases hlt : m.a < S.epoch
  · rw [if_pos hlt]
    have hlt2 := hlt
    generalize hS : S.epoch = ep at *
    clear hS
    go_enter Try.func40, Try.ntmps40
    go_wp2_with fail
    generalize (w.alloc (.cells #[.int .i64 m.kind, .int .i64 m.a, .int .i64 m.b, .int .i64 m.c, .int .i64 m.d, .string m.name, .string m.text, .slice la ln lc] 32)).alloc (.cells #[.int .i64 0, .int .i64 0, .int .i64 0, .int .i64 0, .slice none 0 0] 36) = W at *
    go_region_held3 (fun V => V.cell? ⟨q, 1, none⟩ = some (.int .i64 ep) ∧ V.cell? ⟨w.heap.size, 1, none⟩ = some (.int .i64 m.a)) (go_keep) (fail)
    go_wp2_with fail
    clear z0 z1 z2 z3 z4 fz
    have HT5 := hid ((HT.out).five rfl (.int .i64 13) (.int .i64 0) (.int .i64 0) (.int .i64 0) (.slice none 0 0))
    have HK5 := hid (five_keeps (W) (w.heap.size + 1) (.int .i64 13) (.int .i64 0) (.int .i64 0) (.int .i64 0) (.slice none 0 0))
    unfold five at HT5 HK5
    generalize ((((W.setCell ⟨w.heap.size + 1, 0, none⟩ (.int .i64 13)).setCell ⟨w.heap.size + 1, 1, none⟩ (.int .i64 0)).setCell ⟨w.heap.size + 1, 2, none⟩ (.int .i64 0)).setCell ⟨w.heap.size + 1, 3, none⟩ (.int .i64 0)).setCell ⟨w.heap.size + 1, 4, none⟩ (.slice none 0 0) = N5 at *
    have r0 := cell_blk HT5.out.z 0 _ rfl
    have r1 := cell_blk HT5.out.z 1 _ rfl
    have r2 := cell_blk HT5.out.z 2 _ rfl
    have r3 := cell_blk HT5.out.z 3 _ rfl
    have r4 := cell_blk HT5.out.z 4 _ rfl
    exact bodyPost_ret (v := .agg #[.int .i64 13, .int .i64 0, .int .i64 0, .int .i64 0, .slice none 0 0]) (by simp [results, Try.results40, go_sem, r0, r1, r2, r3, r4]) rfl (⟨Z, ((HH.out.under HBW.out).kept (fun k hk => HK5.out.block k (by have := HZ.out k hk; have := HT.out.s; omega) (fun e => by have := HZ.out k hk; omega)) HK5.out.size).under (Below.refl _ _).drew, fun k hk => .inl hk, HT5.out.k.drew, told_nil⟩)
  · rw [if_neg hlt]
    have hep2 := HA.out.epoch m.a
    have HEP2 := hid hep2
    have fq := HA.out.fz
    have HTQ := hid (HT.out.next (Keeps.set (S := fun k => k = q) ((w.alloc (.cells #[.int .i64 m.kind, .int .i64 m.a, .int .i64 m.b, .int .i64 m.c, .int .i64 m.d, .string m.name, .string m.text, .slice la ln lc] 32)).alloc (.cells #[.int .i64 0, .int .i64 0, .int .i64 0, .int .i64 0, .slice none 0 0] 36)) (a := ⟨q, 1, none⟩) rfl (.int .i64 m.a)) (fun k hk => .inl (by cases hk; exact hZq)) (by omega) (by omega))
    generalize hS : S.epoch = ep at *
    clear hS hep2
    go_enter Try.func40, Try.ntmps40
    go_wp2_with fail
    generalize (w.alloc (.cells #[.int .i64 m.kind, .int .i64 m.a, .int .i64 m.b, .int .i64 m.c, .int .i64 m.d, .string m.name, .string m.text, .slice la ln lc] 32)).alloc (.cells #[.int .i64 0, .int .i64 0, .int .i64 0, .int .i64 0, .slice none 0 0] 36) = W at *
    go_region_held3 (fun V => V.cell? ⟨q, 1, none⟩ = some (.int .i64 ep) ∧ V.cell? ⟨w.heap.size, 1, none⟩ = some (.int .i64 m.a)) (go_keep) (fail)
    go_upto_region 4 with fail
    clear a1 c1 z0 z1 z2 z3 z4 fz fq
    generalize W.setCell ⟨q, 1, none⟩ (.int .i64 m.a) = W3 at *
    have a1 := cell_blk HTQ.out.x 1 _ rfl
    have z0 := cell_blk HTQ.out.z 0 _ rfl
    have z1 := cell_blk HTQ.out.z 1 _ rfl
    have z2 := cell_blk HTQ.out.z 2 _ rfl
    have z3 := cell_blk HTQ.out.z 3 _ rfl
    have z4 := cell_blk HTQ.out.z 4 _ rfl
    have fz := frz_blk HTQ.out.z
    go_wp2_with fail
    clear a1 z0 z1 z2 z3 z4 fz
    have HA3 : Hid (AllM W3 Z q { S with epoch := m.a }) := ⟨b, es, HEP2.out, hZq, HZB.out, HZE.out, fun k hk => Nat.lt_of_lt_of_le (HZ.out k hk) HTQ.out.k.size⟩
    have HT5 := hid ((HTQ.out).five rfl (.int .i64 0) (.int .i64 0) (.int .i64 m.a) (.int .i64 0) (.slice none 0 0))
    have HK5 := hid (five_keeps (W3) (w.heap.size + 1) (.int .i64 0) (.int .i64 0) (.int .i64 m.a) (.int .i64 0) (.slice none 0 0))
    unfold five at HT5 HK5
    generalize ((((W3.setCell ⟨w.heap.size + 1, 0, none⟩ (.int .i64 0)).setCell ⟨w.heap.size + 1, 1, none⟩ (.int .i64 0)).setCell ⟨w.heap.size + 1, 2, none⟩ (.int .i64 m.a)).setCell ⟨w.heap.size + 1, 3, none⟩ (.int .i64 0)).setCell ⟨w.heap.size + 1, 4, none⟩ (.slice none 0 0) = N5 at *
    have r0 := cell_blk HT5.out.z 0 _ rfl
    have r1 := cell_blk HT5.out.z 1 _ rfl
    have r2 := cell_blk HT5.out.z 2 _ rfl
    have r3 := cell_blk HT5.out.z 3 _ rfl
    have r4 := cell_blk HT5.out.z 4 _ rfl
    exact bodyPost_ret (v := .agg #[.int .i64 0, .int .i64 0, .int .i64 m.a, .int .i64 0, .slice none 0 0]) (by simp [results, Try.results40, go_sem, r0, r1, r2, r3, r4]) rfl (⟨Z, (HA3.out.kept (fun k hk => HK5.out.block k (by have := HZ.out k hk; have := HTQ.out.s; omega) (fun e => by have := HZ.out k hk; omega)) HK5.out.size).under (Below.refl _ _).drew, fun k hk => .inl hk, HT5.out.k.drew, told_nil⟩)
end Go.Proofs.Ytdnpbhijjmlecaa

/- A new member. -/
namespace Go.Proofs.Ytdnpbhijjmlecaa
open Go.RowKit Go.Maps
set_option maxRecDepth 100000
set_option linter.unusedSimpArgs false
set_option linter.unusedVariables false

theorem step_append_own {w : World} {ops : Array Oper} {o : Oper} {a : Act} {K : Act → World → Prop} {Q : Exit → Act → World → Prop} {E : Prop} (hgd : o.guard = none) (s x : Operand) (t : TypeId)
    (ho : o.op = .call { callee := .builtin .append, args := #[s, x], argTypes := #[t, t] })
    (base : Nat) (e : TypeId) (i : TypeInfo) (z : Value) (size bytes : Nat) (ht : Try.prog.underlying t = some (.slice e)) (hi : Try.prog.info? e = some i) (hz : i.zero = some z)
    (hsize : i.size = size) (hby : i.bytes = bytes) (hzs : z.cells.size = size) (hsz : 0 < size)
    (v : Value) (n : Nat) (xs : List Value) (hs : a.eval s = v) (hown : w.ownsRow base e size v n xs)
    (ad : Addr) (m c : Nat) (news : List Value) (hx : a.eval x = .slice (some ad) m c) (hl : news.length = m * size) (hnews : ∀ j u, news[j]? = some u → w.cell? (ad.add j) = some u) (h1 : ∀ u ∈ news, u.oneCell' = true)
    (h63 : n + m ≤ maxLen) (hbytes : (n + m) * bytes ≤ 140737488355328) (hbase : base ≤ w.heap.size)
    (h : ∀ v' w', w'.ownsRow base e size v' (n + m) (xs ++ news) → w.grownBy w' v.ownBlock → (v' = .slice none 0 0 ↔ v = .slice none 0 0 ∧ m = 0) → (v'.ownBlock = v.ownBlock ∨ v'.ownBlock = some w.heap.size) → K (a.put o.dst v') w') :
    if Region.wanted o (yielded ops a.tmps) = true then Oper.wp Try.prog o a w K Q else E := by
  have hw : Region.wanted o (yielded ops a.tmps) = true := by simp [Region.wanted, hgd]
  rw [if_pos hw]
  obtain ⟨v', w', hr, h2, h3, h4, h5⟩ := run_append_own_at (P := Try.prog) w base t o.type e i z size bytes ht hi hz hsize hby hzs hsz v n xs hown ad m c news hl hnews h1 h63 hbytes hbase
  unfold Oper.wp execOp
  simp only [ho, resolve, invoke, builtin, Sem.run_bind, Sem.run_pure, Result.andThen_ok, List.map_toArray, List.map_cons, List.map_nil, hs, hx, hr]
  exact h v' w' h2 h3 h4 h5
/-- What admit leaves. -/
def AdmP (w : World) (q : Nat) (vm vp : Value) (ob : Nat) (x : Gr) (w' : World) : Prop := ∃ v2, GrC w' q v2 vp ob (admitG x) ∧ Keeps (Own q vm ob) w w' ∧ ∀ k, v2.ownBlock = some k → vm.ownBlock = some k ∨ w.heap.size ≤ k
theorem GrC.admit {w : World} {q ob : Nat} {vm vp : Value} {x : Gr} (h : GrC w q vm vp ob x) {w2 : World} {v2 : Value} (hg : (((w.setCell ⟨q, 1, none⟩ (.int .i64 (x.ever + 1))).alloc (.cells #[.int .i64 (x.ever + 1), .int .i64 (-1)] 84)).drew).grownBy w2 vm.ownBlock) (hr : w2.ownsRow 0 84 2 v2 (x.mem.length + 1) (flatM x.mem ++ [.int .i64 (x.ever + 1), .int .i64 (-1)])) (hat : v2.ownBlock = vm.ownBlock ∨ v2.ownBlock = some (((w.setCell ⟨q, 1, none⟩ (.int .i64 (x.ever + 1))).alloc (.cells #[.int .i64 (x.ever + 1), .int .i64 (-1)] 84)).drew).heap.size) :
    w2.heap[q]? = some (.cells #[.int .i64 x.gen, .int .i64 (x.ever + 1), vm, vp, .map (some ob)] 72 (0, 0)) ∧ AdmP w q vm vp ob x (w2.setCell ⟨q, 2, none⟩ v2) := by
  have hq := h.lt (.inl rfl)
  have hqm : vm.ownBlock ≠ some q := h.ne_qm
  have hom : vm.ownBlock ≠ some ob := h.ne_om
  have hqo := h.ne_qo
  have hol := h.lt (.inr (.inl rfl))
  have hsz : (((w.setCell ⟨q, 1, none⟩ (.int .i64 (x.ever + 1))).alloc (.cells #[.int .i64 (x.ever + 1), .int .i64 (-1)] 84)).drew).heap.size = w.heap.size + 1 := by simp
  obtain ⟨W1, hW1⟩ : ∃ W1, W1 = ((w.setCell ⟨q, 1, none⟩ (.int .i64 (x.ever + 1))).alloc (.cells #[.int .i64 (x.ever + 1), .int .i64 (-1)] 84)).drew := ⟨_, rfl⟩
  have hb1 : Below (w.setCell ⟨q, 1, none⟩ (.int .i64 (x.ever + 1))).heap.size (w.setCell ⟨q, 1, none⟩ (.int .i64 (x.ever + 1))) W1 := by rw [hW1]; exact ((Below.refl _ _).alloc (Nat.le_refl _) _).drew
  rw [← hW1] at hg hat hsz
  have hk1 : Keeps (Own q vm ob) w W1 := (Keeps.set (S := Own q vm ob) w (a := ⟨q, 1, none⟩) (.inl rfl) _).trans (Keeps.of_below (S := Own q vm ob) hb1) (fun _ k => .inl k)
  have hk2 : Keeps (Own q vm ob) w w2 := hk1.trans (Keeps.of_grown (S := Own q vm ob) hg (fun k hk => .inr (.inr hk))) (fun _ k => .inl k)
  have hk3 : Keeps (Own q vm ob) w (w2.setCell ⟨q, 2, none⟩ v2) := hk2.trans (Keeps.set (S := Own q vm ob) w2 (a := ⟨q, 2, none⟩) (.inl rfl) _) (fun _ k => .inl k)
  have hq1 : W1.heap[q]? = some (.cells #[.int .i64 x.gen, .int .i64 (x.ever + 1), vm, vp, .map (some ob)] 72 (0, 0)) := (hb1.block q (by simpa using hq)).trans (set_box (j := 1) (v := .int .i64 (x.ever + 1)) h.cells)
  have hq2 : w2.heap[q]? = some (.cells #[.int .i64 x.gen, .int .i64 (x.ever + 1), vm, vp, .map (some ob)] 72 (0, 0)) := (hg.block q (by omega) (fun e => hqm e.symm)).trans hq1
  have hv2 : ∀ k, v2.ownBlock = some k → vm.ownBlock = some k ∨ w.heap.size ≤ k := fun k hk => by
    rcases hat with e | e
    · rw [e] at hk; exact .inl hk
    · rw [e] at hk; cases hk; exact .inr (by omega)
  have hq2' : ∀ k, k ≠ q → (w2.setCell ⟨q, 2, none⟩ v2).heap[k]? = w2.heap[k]? := fun k hk => Below.heap_setCell _ _ _ _ hk
  refine ⟨hq2, v2, ⟨?_, ?_, h.parts.keeps hk3 h.apart, ?_, ?_⟩, hk3, hv2⟩
  · have := set_box (j := 2) (v := v2) hq2
    exact this
  · have e1 : (admitG x).mem.length = x.mem.length + 1 := by simp [admitG]
    have e2 : flatM (admitG x).mem = flatM x.mem ++ [.int .i64 (x.ever + 1), .int .i64 (-1)] := by simp [admitG, flatM_append, flatM]
    rw [e1, e2]
    exact row_kept hr (fun k hk => hq2' k (fun e => by
      rcases hv2 k hk with h1 | h1
      · exact hqm (by rw [← e]; exact h1)
      · omega))
  · obtain ⟨es, clock, hm, r⟩ := h.offs
    refine ⟨es, clock, ((hq2' ob hqo.symm).trans ?_).trans hm, r⟩
    have e1 : W1.heap[ob]? = w.heap[ob]? := (hb1.block ob (by simpa using hol)).trans (Below.heap_setCell _ _ _ _ hqo.symm)
    exact (hg.block ob (by omega) (fun e => hom e.symm)).trans e1
  · intro hn b off n c e hb
    have hbl : b < w.heap.size := h.parts.old hn b off n c e
    refine h.apart hn b off n c e ?_
    rcases hb with hb | hb | hb
    · exact .inl hb
    · exact .inr (.inl hb)
    · rcases hv2 b hb with h1 | h1
      · exact .inr (.inr h1)
      · omega
set_option maxHeartbeats 3200000 in
theorem admit_any {w : World} {q ob : Nat} {vm vp : Value} {x : Gr} (h : GrC w q vm vp ob x) (hf : x.mem.length ≤ 1000) (hev : 0 ≤ x.ever ∧ x.ever ≤ 1000000) :
    Calls Try.prog 48 #[.pointer (some ⟨q, 0, none⟩)] w fun e w' => e = .returned (.int .i64 (x.ever + 1)) ∧ AdmP w q vm vp ob x w' := by
  obtain ⟨i0, hi0, hz0, hz1, hz2⟩ := info84
  have c1 := h.read.c1
  have c2 := h.read.c2
  have fq := h.read.fz
  have hq := h.lt (.inl rfl)
  have HH := hid h
  have HADM : Hid (∀ w2 v2, (((w.setCell ⟨q, 1, none⟩ (.int .i64 (x.ever + 1))).alloc (.cells #[.int .i64 (x.ever + 1), .int .i64 (-1)] 84)).drew).grownBy w2 vm.ownBlock → w2.ownsRow 0 84 2 v2 (x.mem.length + 1) (flatM x.mem ++ [.int .i64 (x.ever + 1), .int .i64 (-1)]) → (v2.ownBlock = vm.ownBlock ∨ v2.ownBlock = some (((w.setCell ⟨q, 1, none⟩ (.int .i64 (x.ever + 1))).alloc (.cells #[.int .i64 (x.ever + 1), .int .i64 (-1)] 84)).drew).heap.size) → w2.heap[q]? = some (.cells #[.int .i64 x.gen, .int .i64 (x.ever + 1), vm, vp, .map (some ob)] 72 (0, 0)) ∧ AdmP w q vm vp ob x (w2.setCell ⟨q, 2, none⟩ v2)) := fun w2 v2 a b c => HH.out.admit a b c
  have HROW : Hid ((((w.setCell ⟨q, 1, none⟩ (.int .i64 (x.ever + 1))).alloc (.cells #[.int .i64 (x.ever + 1), .int .i64 (-1)] 84)).drew).ownsRow 0 84 2 vm x.mem.length (flatM x.mem)) := by
    have hb1 : Below (w.setCell ⟨q, 1, none⟩ (.int .i64 (x.ever + 1))).heap.size (w.setCell ⟨q, 1, none⟩ (.int .i64 (x.ever + 1))) (((w.setCell ⟨q, 1, none⟩ (.int .i64 (x.ever + 1))).alloc (.cells #[.int .i64 (x.ever + 1), .int .i64 (-1)] 84)).drew) := ((Below.refl _ _).alloc (Nat.le_refl _) _).drew
    exact row_kept h.mem (fun k hk => (hb1.block k (by have := row_lt h.mem hk; simpa using this)).trans (Below.heap_setCell _ _ _ _ (fun e => h.ne_qm (by cases e; exact hk))))
  have hew : IntKind.i64.wrap (x.ever + 1) = x.ever + 1 := IntWalk.i64_in _ ⟨by omega, by omega⟩
  obtain ⟨oa, cap, rfl, _⟩ := row_shape h.mem
  generalize hE0 : x.ever = e0 at *
  clear hE0
  have HNE : Hid (∀ j u, ([.int .i64 (e0 + 1), .int .i64 (-1)] : List Value)[j]? = some u → (((w.setCell ⟨q, 1, none⟩ (.int .i64 (e0 + 1))).alloc (.cells #[.int .i64 (e0 + 1), .int .i64 (-1)] 84)).drew).cell? ((⟨w.heap.size, 0, none⟩ : Addr).add j) = some u) := fun j u hu => by
    have hb : (((w.setCell ⟨q, 1, none⟩ (.int .i64 (e0 + 1))).alloc (.cells #[.int .i64 (e0 + 1), .int .i64 (-1)] 84)).drew).heap[w.heap.size]? = some (.cells #[.int .i64 (e0 + 1), .int .i64 (-1)] 84) := by
      have h2 := heap_alloc_new (w.setCell ⟨q, 1, none⟩ (.int .i64 (e0 + 1))) (.cells #[.int .i64 (e0 + 1), .int .i64 (-1)] 84)
      rw [show (w.setCell ⟨q, 1, none⟩ (.int .i64 (e0 + 1))).heap.size = w.heap.size by simp] at h2
      exact h2
    rw [add_at, Nat.zero_add]
    exact cell_blk hb j u (by simpa using hu)
  have HON : Hid (∀ u ∈ ([.int .i64 (e0 + 1), .int .i64 (-1)] : List Value), u.oneCell' = true) := fun u hu => by
    simp only [List.mem_cons, List.not_mem_nil, or_false] at hu
    rcases hu with rfl | rfl <;> rfl
  have hne : ¬ q = w.heap.size := by omega
  have hne2 : ¬ w.heap.size = q := by omega
  clear h HH
  go_enter Try.func48, Try.ntmps48
  go_wp2_with fail
  go_region_law (first
    | (refine step_append_own (by rfl) (.tmp 14) (.tmp 20) 69 (by rfl) 0 84 i0 _ 2 16 Try.underlying69 hi0 hz0 hz1 hz2 rfl (by decide) (.slice oa x.mem.length cap) x.mem.length (flatM x.mem) (by simp [Act.eval, Act.put]) HROW.out ⟨w.heap.size, 0, none⟩ 1 1 [.int .i64 (e0 + 1), .int .i64 (-1)] (by simp [Act.eval, Act.put]) rfl HNE.out HON.out (by unfold maxLen; omega) (by omega) (Nat.zero_le _) ?_; intro v5 w5 hown5 hg5 _ hat5; obtain ⟨hq5, hadm⟩ := HADM.out w5 v5 hg5 hown5 hat5; have HAD := hid hadm; have q2 := cell_blk hq5 2 _ rfl; have q1 := cell_blk hq5 1 _ rfl; have fq5 := frz_blk hq5; obtain ⟨a5, n5, c5, rfl⟩ : ∃ a n c, v5 = .slice a n c := (by obtain ⟨oa, cap, e, _⟩ := row_shape hown5; exact ⟨_, _, _, e⟩); clear hown5 hg5 hat5 hadm)
    | fail)
  all_goals
    go_wp2_with fail
    go_ret
    exact ⟨rfl, HAD.out⟩
end Go.Proofs.Ytdnpbhijjmlecaa

/- Join: what it leaves, all in all. -/
namespace Go.Proofs.Ytdnpbhijjmlecaa
open Go.RowKit Go.Maps
set_option maxRecDepth 100000
set_option linter.unusedSimpArgs false
set_option linter.unusedVariables false

theorem GrC.setp {w : World} {q ob : Nat} {vm vp v : Value} {x : Gr} {l : List Int} (h : GrC w q vm vp ob x) (hl : IL w v l) (ha : In (fun k => ¬ Own q vm ob k) v l) : GrC (w.setCell ⟨q, 3, none⟩ v) q vm v ob { x with parts := l } := by
  have hk : Keeps (Own q vm ob) w (w.setCell ⟨q, 3, none⟩ v) := Keeps.set w (a := ⟨q, 3, none⟩) (.inl rfl) _
  refine ⟨by have := set_box (j := 3) (v := v) h.cells; exact this, row_kept h.mem (fun k hk2 => Below.heap_setCell _ _ _ _ (fun e => h.ne_qm (by cases e; exact hk2))), hl.keeps hk ha, ?_, ha⟩
  obtain ⟨es, clock, hm, r⟩ := h.offs
  exact ⟨es, clock, (Below.heap_setCell _ _ _ _ (fun e => h.ne_qo (by cases e; rfl))).trans hm, r⟩
theorem GrC.setg {w : World} {q ob : Nat} {vm vp : Value} {x : Gr} (h : GrC w q vm vp ob x) (n : Int) : GrC (w.setCell ⟨q, 0, none⟩ (.int .i64 n)) q vm vp ob { x with gen := n } := by
  have hk : Keeps (Own q vm ob) w (w.setCell ⟨q, 0, none⟩ (.int .i64 n)) := Keeps.set w (a := ⟨q, 0, none⟩) (.inl rfl) _
  refine ⟨by have := set_box (j := 0) (v := .int .i64 n) h.cells; exact this, row_kept h.mem (fun k hk2 => Below.heap_setCell _ _ _ _ (fun e => h.ne_qm (by cases e; exact hk2))), h.parts.keeps hk h.apart, ?_, h.apart⟩
  obtain ⟨es, clock, hm, r⟩ := h.offs
  exact ⟨es, clock, (Below.heap_setCell _ _ _ _ (fun e => h.ne_qo (by cases e; rfl))).trans hm, r⟩
/-- The block of a list. -/
def blk (v : Value) (k : Nat) : Prop := ∃ off n c, v = .slice (some ⟨k, off, none⟩) n c
theorem in_blk (v : Value) (l : List Int) : In (blk v) v l := fun _ b off n c e => ⟨off, n, c, e⟩
theorem names_made {es : List En} {S : Gs} {w : World} {q b : Nat} (h : AllC w q b es S) (hn : S.gs.Pairwise fun a b => a.1 ≠ b.1) : es.Pairwise fun a b => a.name ≠ b.name := by
  rw [h.abs, List.pairwise_map] at hn
  exact hn
theorem join_end {w w1 w4 w8 w9 N : World} {Z : Nat → Prop} {q b : Nat} {es es' : List En} {S : Gs} {x : En} (hZq : Z q) (hZb : Z b) (hZe : ∀ e ∈ es, ∀ j, e.own j → Z j) (hZl : ∀ j, Z j → j < w.heap.size)
    (hb1 : Below w.heap.size w w1) (hs1 : w.heap.size + 2 ≤ w1.heap.size) (hA : AllC w4 q b es' S) (hx : x ∈ es') (hown : ∀ d ∈ es', ∀ j, d.own j → (∃ c ∈ es, c.own j) ∨ w1.heap.size ≤ j) (hk4 : Keeps (fun j => j = b) w1 w4)
    (hnm : es'.Pairwise fun a b => a.name ≠ b.name) {own' : Nat → Prop} {y' : Gr} (hk8 : Keeps x.own w4 w8) (hy : GrM w8 own' x.at_ y') (hs : ∀ j, own' j → x.own j ∨ w4.heap.size ≤ j) (hb9 : Below w8.heap.size w8 w9)
    (hN : Keeps (fun j => j = w.heap.size + 1) w9 N) {t : Td} {a : Option Addr} {c : Nat} (hl : IL w9 (.slice a t.parts.length c) t.parts) (hin : In (fun j => w8.heap.size ≤ j) (.slice a t.parts.length c) t.parts) :
    OutA Z w N q { S with gs := setG S.gs x.name y' } t (.returned (.agg #[.int .i64 t.err, .int .i64 t.mem, .int .i64 t.gen, .int .i64 t.off, .slice a t.parts.length c])) := by
  have hT := hA.turn hnm hx hk8 hy hs
  have hT9 := hT.under hb9
  have hs4 := hk4.size
  have hs8 := hk8.size
  have hs9 := hb9.size
  have hqb : q < w.heap.size ∧ b < w.heap.size := ⟨hZl q hZq, hZl b hZb⟩
  have hdl : ∀ d ∈ es', ∀ j, d.own j → j < w4.heap.size := fun d hd j hj => by obtain ⟨_, _, _, _, _, _, hz⟩ := (hA.each d hd).1; exact hz j hj
  have hyl : ∀ j, own' j → j < w8.heap.size := fun j hj => by obtain ⟨_, _, _, _, _, _, hz⟩ := hy; exact hz j hj
  have hzn : ∀ d ∈ es', ∀ j, d.own j → (Z j ∨ w.heap.size ≤ j) ∧ j ≠ w.heap.size + 1 := fun d hd j hj => by
    rcases hown d hd j hj with ⟨c, hc, hj2⟩ | h2
    · have := hZl j (hZe c hc j hj2); exact ⟨.inl (hZe c hc j hj2), by omega⟩
    · exact ⟨.inr (by omega), by omega⟩
  have hmem : ∀ d' ∈ es'.map (turnE x own' y'), ∀ j, d'.own j → (Z j ∨ w.heap.size ≤ j) ∧ j ≠ w.heap.size + 1 ∧ j < w8.heap.size := fun d' hd' j hj => by
    obtain ⟨d, hd, rfl⟩ := List.mem_map.1 hd'
    unfold turnE at hj
    split at hj
    · rcases hs j hj with h1 | h1
      · obtain ⟨g1, g2⟩ := hzn x hx j h1
        exact ⟨g1, g2, hyl j hj⟩
      · exact ⟨.inr (by omega), by omega, hyl j hj⟩
    · obtain ⟨g1, g2⟩ := hzn d hd j hj
      exact ⟨g1, g2, Nat.lt_of_lt_of_le (hdl d hd j hj) hs8⟩
  refine ⟨fun j => j = q ∨ j = b ∨ ∃ d' ∈ es'.map (turnE x own' y'), d'.own j, ?_, ?_, ?_, ?_⟩
  · have h9 : AllM w9 (fun j => j = q ∨ j = b ∨ ∃ d' ∈ es'.map (turnE x own' y'), d'.own j) q { S with gs := setG S.gs x.name y' } := ⟨b, _, hT9, .inl rfl, .inr (.inl rfl), fun d hd j hj => .inr (.inr ⟨d, hd, hj⟩), fun j hj => by
      rcases hj with rfl | rfl | ⟨d, hd, hj⟩
      · exact hT9.qlt
      · exact hT9.blt
      · have := (hmem d hd j hj).2.2; omega⟩
    refine h9.kept (fun j hj => hN.block j ?_ ?_) hN.size
    · rcases hj with rfl | rfl | ⟨d, hd, hj⟩
      · exact hT9.qlt
      · exact hT9.blt
      · have := (hmem d hd j hj).2.2; omega
    · rcases hj with rfl | rfl | ⟨d, hd, hj⟩
      · omega
      · omega
      · exact (hmem d hd j hj).2.1
  · intro j hj
    rcases hj with rfl | rfl | ⟨d, hd, hj⟩
    · exact .inl hZq
    · exact .inl hZb
    · exact (hmem d hd j hj).1
  · have k1 : Keeps Z w w1 := Keeps.of_below hb1
    have k4 : Keeps Z w w4 := k1.trans hk4 (fun j hj => .inl (by cases hj; exact hZb))
    have k8 : Keeps Z w w8 := k4.trans hk8 (fun j hj => (hzn x hx j hj).1)
    have k9 : Keeps Z w w9 := k8.trans (Keeps.of_below (S := Z) hb9) (fun _ k => .inl k)
    exact k9.trans hN (fun j hj => .inr (by omega))
  · refine ⟨a, c, rfl, hl.keeps hN (hin.mono (fun j hj => by omega)), hin.mono (fun j hj => ⟨by have := hb1.size; omega, fun h => ?_⟩)⟩
    rcases h with rfl | rfl | ⟨d, hd, hj2⟩
    · have := hA.qlt; omega
    · have := hA.blt; omega
    · have := (hmem d hd j hj2).2.2; omega
theorem made_get {gs : GL} {n : List UInt8} (h : gs.Pairwise fun a b => a.1 ≠ b.1) (y : Gr) : setG (madeG gs n) n y = putG gs n y := by
  unfold madeG putG
  cases hg : (getG gs n).isSome with
  | true => rfl
  | false =>
    simp only [Bool.false_eq_true, if_false]
    have hno : ∀ p ∈ gs, (p.1 == n) = false := fun p hp => by
      unfold getG at hg
      simp only [Option.isSome_map, Option.isSome_eq_false_iff, Option.isNone_iff_eq_none] at hg
      have := List.find?_eq_none.1 hg p hp
      simpa using this
    have hset : ∀ L : GL, (∀ p ∈ L, (p.1 == n) = false) → setG L n y = L := fun L hL => by
      unfold setG
      conv => rhs; rw [← List.map_id L]
      apply List.map_congr_left
      intro p hp
      rw [hL p hp]
      rfl
    have hins : ∀ L : GL, (∀ p ∈ L, (p.1 == n) = false) → setG (insG (n, Gr.zero) L) n y = insG (n, y) L := by
      intro L
      induction L with
      | nil => intro _; simp [insG, setG]
      | cons p r ih =>
        intro hL
        unfold insG
        split
        · show setG ((n, Gr.zero) :: p :: r) n y = _
          have h2 := hset (p :: r) hL
          unfold setG at h2 ⊢
          rw [List.map_cons, h2]
          simp
        · have h2 := ih (fun p hp => hL p (List.mem_cons_of_mem _ hp))
          have h3 := hL p (List.mem_cons_self ..)
          unfold setG at h2 ⊢
          rw [List.map_cons, h2, h3]
          rfl
    exact hins gs hno
theorem made_names {gs : GL} {n : List UInt8} (h : gs.Pairwise fun a b => a.1 ≠ b.1) : (madeG gs n).Pairwise fun a b => a.1 ≠ b.1 := by
  unfold madeG
  cases hg : (getG gs n).isSome with
  | true => exact h
  | false =>
    simp only [Bool.false_eq_true, if_false]
    have hno : ∀ p ∈ gs, p.1 ≠ n := fun p hp => by
      unfold getG at hg
      simp only [Option.isSome_map, Option.isSome_eq_false_iff, Option.isNone_iff_eq_none] at hg
      have := List.find?_eq_none.1 hg p hp
      simpa using this
    have hmem : ∀ (L : GL) (z : List UInt8 × Gr) p, p ∈ insG z L ↔ p = z ∨ p ∈ L := by
      intro L z p
      induction L with
      | nil => simp [insG]
      | cons y r ih =>
        unfold insG
        split
        · simp
        · simp only [List.mem_cons, ih]
          constructor
          · rintro (h | h | h) <;> simp [h]
          · rintro (h | h | h) <;> simp [h]
    have : ∀ L : GL, L.Pairwise (fun a b => a.1 ≠ b.1) → (∀ p ∈ L, p.1 ≠ n) → (insG (n, Gr.zero) L).Pairwise (fun a b => a.1 ≠ b.1) := by
      intro L
      induction L with
      | nil => intro _ _; simp [insG]
      | cons y r ih =>
        intro hp hL
        have hp' := List.pairwise_cons.1 hp
        unfold insG
        split
        · exact List.Pairwise.cons (fun p hp2 => (hL p hp2).symm) hp
        · refine List.Pairwise.cons (fun p hp2 => ?_) (ih hp'.2 (fun p hp => hL p (List.mem_cons_of_mem _ hp)))
          rcases (hmem _ _ _).1 hp2 with rfl | hp2
          · exact hL y (List.mem_cons_self ..)
          · exact hp'.1 p hp2
    exact this gs h hno
end Go.Proofs.Ytdnpbhijjmlecaa

/- Join. -/
namespace Go.Proofs.Ytdnpbhijjmlecaa
open Go.RowKit Go.Maps
set_option maxRecDepth 100000
set_option linter.unusedSimpArgs false
set_option linter.unusedVariables false

theorem joinE_zero {gs : GL} {m : Rc} (h : joinE gs m = 0) : nameB m.name = true ∧ 0 ≤ m.a ∧ riseB 0 m.list = true ∧ (0 < m.a → (getG gs m.key).isSome = true ∧ hasM (foundG gs m.key) m.a = true) ∧ ((getG gs m.key).isSome = true ∨ gs.length < 8) ∧ (m.a = 0 → (foundG gs m.key).mem.length < 16) ∧ (foundG gs m.key).ever < 1000000 := by
  unfold joinE at h
  split at h
  · omega
  · rename_i h1
    split at h
    · omega
    · rename_i h2
      split at h
      · omega
      · rename_i h3
        split at h
        · omega
        · rename_i h4
          have n1 : nameB m.name = true := by cases hb : nameB m.name with | true => rfl | false => exact absurd (.inl hb) h1
          have n3 : riseB 0 m.list = true := by cases hb : riseB 0 m.list with | true => rfl | false => exact absurd (.inr (.inr hb)) h1
          have n2 : 0 ≤ m.a := by
            by_cases h : m.a < 0
            · exact absurd (.inr (.inl h)) h1
            · omega
          refine ⟨n1, n2, n3, fun ha => ⟨?_, ?_⟩, ?_, fun ha => ?_, ?_⟩
          · cases hb : (getG gs m.key).isSome with | true => rfl | false => exact absurd ⟨ha, hb⟩ h2
          · cases hb : hasM (foundG gs m.key) m.a with | true => rfl | false => exact absurd ⟨ha, hb⟩ h3
          · cases hb : (getG gs m.key).isSome with
            | true => exact .inl rfl
            | false =>
              rcases Nat.lt_or_ge gs.length 8 with h | h
              · exact .inr h
              · exact absurd (.inl ⟨hb, h⟩) h4
          · rcases Nat.lt_or_ge (foundG gs m.key).mem.length 16 with h | h
            · exact h
            · exact absurd (.inr (.inl ⟨ha, h⟩)) h4
          · by_cases h : (foundG gs m.key).ever < 1000000
            · exact h
            · exact absurd (.inr (.inr (by omega))) h4
theorem join_has {x : Gr} {m : Rc} {N : Nat} (hok : GrOk N x) (h : 0 < m.a → hasM x m.a = true) (h0 : 0 ≤ m.a) : hasM (joinG x m) (joinD x m) = true := by
  unfold joinG joinX joinD hasM
  by_cases ha : m.a = 0
  · simp only [ha, if_true]
    have := place_snoc x.mem ⟨x.ever + 1, -1⟩ (fun y hy => by have := hok.mems y hy; simp; omega)
    simp only at this
    show (placeN (admitG x).mem (x.ever + 1)).isSome = true
    unfold admitG
    rw [this]
    rfl
  · simp only [ha, if_false]
    exact h (by omega)
set_option maxHeartbeats 6400000 in
theorem join_any {w : World} {Z : Nat → Prop} {q : Nat} {S : Gs} {N : Nat} (h : AllM w Z q S) (hok : GsOk N S) (hN : N ≤ 1000000) (m : Rc) (hrc : RcOk m) (hnm : m.name.size ≤ maxLen) (la : Option Addr) (lc : Nat) (hl : IL w (.slice la m.list.length lc) m.list) (hlz : In (fun k => ¬ Z k) (.slice la m.list.length lc) m.list) :
    Calls Try.prog 38 #[.pointer (some ⟨q, 0, none⟩), recV m (.slice la m.list.length lc)] w fun e w' => OutA Z w w' q (joinI S m).1 (joinI S m).2 e := by
  have hT := tb_new Z w (recA m (.slice la m.list.length lc)) zTd
  have HT := hid hT
  have hbW : Below w.heap.size w ((w.alloc (.cells (recA m (.slice la m.list.length lc)) 32)).alloc (.cells zTd 36)) := (tb_new (fun _ => False) w (recA m (.slice la m.list.length lc)) zTd).k.base
  have HBW := hid hbW
  have HH := hid h
  have HJE := hid (joinE_any (h.under hbW) hok m hrc hnm la lc (hl.under hbW))
  obtain ⟨b, es, hA, hZq, hZb, hZe, hZl⟩ := h
  have HA := hid (hA.under hbW)
  have HL := hid (hl.under hbW)
  have HZE := hid hZe
  have HZL := hid hZl
  have HZQ := hid hZq
  have HZB := hid hZb
  have hq := hZl q hZq
  have hbl := hZl b hZb
  have HLZ := hid hlz
  have HLO := hid hl.old
  have HOK := hid hok
  have hes : es.length ≤ 8 := by have := hok.few; rw [hA.abs, List.length_map] at this; exact this
  have HG0 := hid (foundOk hok m.key)
  have HJI : Hid (joinI S m = if joinE S.gs m ≠ 0 then (S, errT (joinE S.gs m)) else ({ S with gs := putG S.gs m.key (joinG (foundG S.gs m.key) m) }, joinT (foundG S.gs m.key) m)) := rfl
  have HJZ := hid (joinE_zero (gs := S.gs) (m := m))
  have a0 := cell_blk hT.x 0 _ rfl
  have a1 := cell_blk hT.x 1 _ rfl
  have a2 := cell_blk hT.x 2 _ rfl
  have a3 := cell_blk hT.x 3 _ rfl
  have a4 := cell_blk hT.x 4 _ rfl
  have a5 := cell_blk hT.x 5 _ rfl
  have a6 := cell_blk hT.x 6 _ rfl
  have a7 := cell_blk hT.x 7 _ rfl
  unfold recV recA zTd at *
  rw [HJI.out]
  clear hT hbW hA hZe hZl hl hlz HJI hok hrc hZq hZb
  generalize hE0 : joinE S.gs m = E0 at *
  clear hE0
  by_cases h0 : E0 = 0
  · subst h0
    rw [if_neg (by simp)]
    obtain ⟨j1, j2, j3, j4, j5, j6, j7⟩ := HJZ.out rfl
    have HJ1 := hid j1
    have HJ3 := hid j3
    have HJ4 := hid j4
    have HJ6 := hid j6
    have HJ7 := hid j7
    have hn32 : m.name.size ≤ 32 := by
      unfold nameB at j1
      simp only [Bool.and_eq_true, decide_eq_true_eq] at j1
      exact j1.1.2
    have HFM : Hid (∀ V, Below ((w.alloc (.cells (recA m (.slice la m.list.length lc)) 32)).alloc (.cells zTd 36)).heap.size ((w.alloc (.cells (recA m (.slice la m.list.length lc)) 32)).alloc (.cells zTd 36)) V → Calls Try.prog 47 #[.pointer (some ⟨q, 0, none⟩), .string m.name] V (FoundP V q b es S m.key)) := fun V hV => findOrMake_any (HA.out.under hV) (by omega) m.name hn32
    unfold recA zTd at *
    clear j1 j3 j4 j5 j6 j7 HJZ
    go_enter Try.func38, Try.ntmps38
    go_wp2_with fail
    generalize (w.alloc (.cells #[.int .i64 m.kind, .int .i64 m.a, .int .i64 m.b, .int .i64 m.c, .int .i64 m.d, .string m.name, .string m.text, .slice la m.list.length lc] 32)).alloc (.cells #[.int .i64 0, .int .i64 0, .int .i64 0, .int .i64 0, .slice none 0 0] 36) = W at *
    refine HJE.out.mono ?_
    rintro e w1 ⟨rfl, hb1⟩
    have ht1 := HT.out.under hb1
    have HT1 := hid ht1
    have HB1 := hid hb1
    have HL1 := hid (HL.out.under hb1)
    have b5 := cell_blk ht1.x 5 _ rfl
    have b1 := cell_blk ht1.x 1 _ rfl
    clear hb1 ht1 a0 a1 a2 a3 a4 a5 a6 a7 HJE
    have hbx : ¬ w.heap.size = b := by omega
    have hbx2 : ¬ b = w.heap.size := by omega
    go_wp2_with fail
    go_region_held3 (fun V => V.cell? ⟨w.heap.size, 5, none⟩ = some (.string m.name) ∧ V.cell? ⟨w.heap.size, 1, none⟩ = some (.int .i64 m.a)) (go_keep)
      (first | (go_at_call 47; refine (HFM.out _ (by first | exact HB1.out | exact HB1.out.drew)).mono ?_; rintro e w4 ⟨es', x, rfl, hA4, hx4, hn4, hg4, ho4, hk4⟩; have ht4 := (HT1.out.under (Below.refl _ _).drew).next hk4 (fun j hj => .inl (by cases hj; exact HZB.out)) (fun hj => by omega) (fun hj => by omega); have HT4 := hid ht4; have d5 := cell_blk ht4.x 5 _ rfl; have d1 := cell_blk ht4.x 1 _ rfl; have HA4 := hid hA4; have HX4 := hid hx4; have HN4 := hid hn4; have HG4 := hid hg4; have HO4 := hid ho4; have HK4 := hid hk4; clear hA4 hx4 hn4 hg4 ho4 hk4 ht4) | fail)
    clear b5 b1 HFM d5 d1
    have hs1 := HT1.out.s
    have HBW1 : Hid (Below w.heap.size w w1.drew) := (HBW.out.trans (HB1.out.mono HBW.out.size)).drew
    obtain ⟨V1, hV1⟩ : ∃ V1, V1 = w1.drew := ⟨_, rfl⟩
    have hs1' : w.heap.size + 2 ≤ V1.heap.size := by rw [hV1]; exact hs1
    have HL1' : Hid (IL V1 (.slice la m.list.length lc) m.list) := by rw [hV1]; exact HL1.out.under (Below.refl _ _).drew
    rw [← hV1] at HK4 HO4 HBW1
    clear hV1 HL1 HT1 HB1
    obtain ⟨hgm, hne4⟩ := HA4.out.each x HX4.out
    rw [HG4.out] at hgm
    obtain ⟨vm, vp, ob, hC4, hO4, hIn4, hZ4⟩ := hgm
    have HC4 := hid hC4
    have HOW4 := hid hO4
    have HXZ : Hid (∀ j, x.own j → (Z j ∨ w.heap.size ≤ j) ∧ j ≠ w.heap.size ∧ j ≠ w.heap.size + 1) := fun j hj => by
      rcases HO4.out x HX4.out j hj with ⟨c, hc, hj2⟩ | h2
      · have := HZL.out j (HZE.out c hc j hj2); exact ⟨.inl (HZE.out c hc j hj2), by omega, by omega⟩
      · exact ⟨.inr (by omega), by omega, by omega⟩
    have HLX : Hid (In (fun j => ¬ x.own j) (.slice la m.list.length lc) m.list) := fun hne b' off n c e hj => by
      have h1 := HLZ.out hne b' off n c e
      have h2 := HLO.out hne b' off n c e
      rcases HO4.out x HX4.out b' hj with ⟨c, hc, hj2⟩ | h3
      · exact h1 (HZE.out c hc b' hj2)
      · omega
    have HL4 : Hid (IL w4 (.slice la m.list.length lc) m.list) := HL1'.out.keeps HK4.out (HLZ.out.mono fun j hj e => by cases e; exact hj HZB.out)
    have hnames := names_made HA4.out (made_names HOK.out.names)
    have HNM := hid hnames
    have hkl := HOW4.out _ (.inl rfl)
    obtain ⟨k, hk⟩ : ∃ k, k = x.at_ := ⟨_, rfl⟩
    have HKX := hid hk
    unfold ptr
    rw [← hk] at HC4 HOW4 hkl ⊢
    clear hk hC4 hO4 hnames HL1' hne4
    obtain ⟨G, hG⟩ : ∃ G, G = foundG S.gs m.key := ⟨_, rfl⟩
    have HGF := hid hG
    rw [← hG] at HC4 HG0 HJ4 HJ6 HJ7
    clear hG HG4
    have hkz := HXZ.out k hkl
    have hk1 : ¬ k = w.heap.size := hkz.2.1
    have hk2 : ¬ k = w.heap.size + 1 := hkz.2.2
    have hk3 : ¬ w.heap.size = k := fun e => hk1 e.symm
    have hk4' : ¬ w.heap.size + 1 = k := fun e => hk2 e.symm
    have hev := HG0.out.ever
    have hgb := HG0.out.gen
    have hml := HG0.out.few
    have HHAS := hid (join_has HG0.out (fun ha => (HJ4.out ha).2) j2)
    have HADM := hid (admit_any HC4.out (by omega) hev)
    clear hkz
    by_cases ha : m.a = 0
    · have ha' : (m.a == 0) = true := by simp [ha]
      have HAZ := hid ha
      rw [ha]
      clear ha
      go_wp2_with fail
      refine HADM.out.mono ?_
      rintro e w5 ⟨rfl, v2, hC5, hk5, hv5⟩
      have HC5 := hid hC5
      have HK5a := hid hk5
      have HV5 := hid hv5
      have HX5 : Hid (joinX G m = admitG G ∧ joinD G m = G.ever + 1) := ⟨by unfold joinX; rw [if_pos HAZ.out], by unfold joinD; rw [if_pos HAZ.out]⟩
      clear hC5 hk5 hv5 HADM
      have ht5 := HT4.out.next HK5a.out (fun j hj => (HXZ.out j (HOW4.out j hj)).1) (fun hj => (HXZ.out _ (HOW4.out _ hj)).2.1 rfl) (fun hj => (HXZ.out _ (HOW4.out _ hj)).2.2 rfl)
      have HT5 := hid ht5
      have HL5 := hid (HL4.out.keeps HK5a.out (HLX.out.mono fun j hj e => hj (HOW4.out j e)))
      have HCLN := hid (clone_any HL5.out)
      have b7 := cell_blk ht5.x 7 _ rfl
      have hcn := HC5.out.cells
      have HQ5 : Hid (∀ V, Below w5.heap.size w5 V → V.heap[k]? = some (.cells #[.int .i64 G.gen, .int .i64 (G.ever + 1), v2, vp, .map (some ob)] 72 (0, 0))) := fun V hV => (hV.block k (HC5.out.lt (.inl rfl))).trans HC5.out.cells
      have hXg : G.gen = G.gen := rfl
      have hgw : IntKind.i64.wrap (G.gen + 1) = G.gen + 1 := IntWalk.i64_in _ ⟨by rw [hXg]; omega, by rw [hXg]; omega⟩
      clear ht5 hcn hXg
      go_wp2_with fail
      refine HCLN.out.mono ?_
      rintro e w6 ⟨v6, rfl, hi6, hin6, hb6⟩
      obtain ⟨a6, n6, c6, rfl⟩ : ∃ a n c, v6 = .slice a n c := by obtain ⟨⟨a, cap, e, _⟩, _⟩ := hi6; exact ⟨_, _, _, e⟩
      have hq6 := HQ5.out w6 hb6
      have q3 := cell_blk hq6 3 _ rfl
      have q0 := cell_blk hq6 0 _ rfl
      have fq := frz_blk hq6
      have hs45 := HK5a.out.size
      have hap6 : In (fun j => ¬ Own k v2 ob j) (.slice a6 n6 c6) m.list := hin6.mono fun j hj ho => by
        have := HC5.out.lt ho
        omega
      have hC8 := ((HC5.out.under hb6).setp hi6 hap6).setg (G.gen + 1)
      have hk8 : Keeps (fun j => j = k) w6 ((w6.setCell ⟨k, 3, none⟩ (.slice a6 n6 c6)).setCell ⟨k, 0, none⟩ (.int .i64 (G.gen + 1))) := (Keeps.set (S := fun j => j = k) w6 (a := ⟨k, 3, none⟩) rfl _).trans (Keeps.set (S := fun j => j = k) _ (a := ⟨k, 0, none⟩) rfl _) (fun _ k => .inl k)
      have hK8 : Keeps x.own w4 ((w6.setCell ⟨k, 3, none⟩ (.slice a6 n6 c6)).setCell ⟨k, 0, none⟩ (.int .i64 (G.gen + 1))) := ((HK5a.out.mono HOW4.out).trans (Keeps.of_below (S := x.own) hb6) (fun _ k => .inl k)).trans hk8 (fun j hj => .inl (by cases hj; exact hkl))
      have ht8 := (HT5.out.under hb6).next hk8 (fun j hj => (HXZ.out j (by cases hj; exact hkl)).1) (fun hj => hk3 hj) (fun hj => hk4' hj)
      have hGM : GrM ((w6.setCell ⟨k, 3, none⟩ (.slice a6 n6 c6)).setCell ⟨k, 0, none⟩ (.int .i64 (G.gen + 1))) (fun j => Own k v2 ob j ∨ (blk (.slice a6 n6 c6) j ∧ m.list ≠ [])) k { { admitG G with parts := m.list } with gen := G.gen + 1 } := ⟨v2, _, ob, hC8, fun j hj => .inl hj, fun hne b' off n c e => .inr ⟨⟨off, n, c, e⟩, hne⟩, fun j hj => hj.elim (fun h => hC8.lt h) (fun h => by obtain ⟨⟨off, n, c, e⟩, hne⟩ := h; exact hC8.parts.old hne j off n c e)⟩
      have hOS : ∀ j, (Own k v2 ob j ∨ (blk (.slice a6 n6 c6) j ∧ m.list ≠ [])) → x.own j ∨ w4.heap.size ≤ j := fun j hj => by
        rcases hj with (h | h | h) | ⟨⟨off, n, c, e⟩, hne⟩
        · exact .inl (by rw [h]; exact hkl)
        · exact .inl (HOW4.out j (.inr (.inl h)))
        · rcases HV5.out j h with h2 | h2
          · exact .inl (HOW4.out j (.inr (.inr h2)))
          · exact .inr h2
        · have := hin6 hne j off n c e
          exact .inr (by omega)
      have HC8 := hid hC8
      have HK8 := hid hK8
      have HT8 := hid ht8
      have HGM := hid hGM
      have HOS := hid hOS
      have HY : Hid (({ { admitG G with parts := m.list } with gen := G.gen + 1 } : Gr) = joinG G m) := by show _ = _; unfold joinG; rw [HX5.out.1]
      clear hi6 hin6 hb6 hq6 hap6 hC8 hk8 hK8 ht8 hGM hOS HQ5 HCLN
      go_upto_region 9 with fail
      clear q3 q0 fq b7
      generalize (w6.setCell ⟨k, 3, none⟩ (.slice a6 n6 c6)).setCell ⟨k, 0, none⟩ (.int .i64 (G.gen + 1)) = W8 at *
      rw [HY.out] at HC8 HGM
      have hfy : (joinG G m).mem.length ≤ 1000 := by
        have : (joinG G m).mem = (joinX G m).mem := rfl
        rw [this, HX5.out.1]
        first | omega | (simp [admitG]; omega)
      have hidy : ∀ y ∈ (joinG G m).mem, I64 y.id := by
        have : (joinG G m).mem = (joinX G m).mem := rfl
        rw [this, HX5.out.1]
        intro y hy
        first
          | exact HG0.out.id64 y hy
          | (rcases List.mem_append.1 hy with h | h
             · exact HG0.out.id64 y h
             · obtain rfl := List.mem_singleton.1 h; unfold I64; constructor <;> (show _ ≤ _; simp only; omega))
      have HPO : Hid (∀ V, Below W8.heap.size W8 V → Calls Try.prog 49 #[.pointer (some ⟨k, 0, none⟩), .int .i64 (G.ever + 1)] V fun e w' => ∃ v', e = .returned v' ∧ IL w' v' (partsOf (joinG G m) (G.ever + 1)) ∧ In (fun b => V.heap.size ≤ b) v' (partsOf (joinG G m) (G.ever + 1)) ∧ Below V.heap.size V w') := fun V hV => by
        have := HHAS.out
        rw [HX5.out.2] at this
        exact partsOf_any (HC8.out.under hV).read hfy hidy (G.ever + 1) this
      have c0 : W8.cell? ⟨k, 0, none⟩ = some (.int .i64 (G.gen + 1)) := HC8.out.read.c0
      have HJT : Hid (joinT G m = ⟨0, (G.ever + 1), G.gen + 1, 0, partsOf (joinG G m) (G.ever + 1)⟩) := by show _ = _; unfold joinT; rw [HX5.out.2]
      have HTZ : Hid (∀ V, Below W8.heap.size W8 V → TB Z w V (#[.int .i64 m.kind, .int .i64 m.a, .int .i64 m.b, .int .i64 m.c, .int .i64 m.d, .string m.name, .string m.text, .slice la m.list.length lc]) (#[.int .i64 0, .int .i64 0, .int .i64 0, .int .i64 0, .slice none 0 0])) := fun V hV => HT8.out.under hV
      have HCZ : Hid (∀ V, Below W8.heap.size W8 V → V.cell? ⟨k, 0, none⟩ = some (.int .i64 (G.gen + 1))) := fun V hV => kept_cell hV c0
      clear hfy hidy
      go_wp2_with fail
      go_region_held3 (fun V => V.cell? ⟨k, 0, none⟩ = some (.int .i64 (G.gen + 1))) (go_keep)
        (first | (go_at_call 49; refine (HPO.out _ (by first | exact Below.refl _ _ | exact (Below.refl _ _).drew)).mono ?_; rintro e w9 ⟨v9, rfl, hi9, hin9, hb9⟩; obtain ⟨a9, n9, c9, rfl⟩ : ∃ a n c, v9 = .slice a n c := (by obtain ⟨⟨a, cap, e, _⟩, _⟩ := hi9; exact ⟨_, _, _, e⟩); have HB9 := hid ((show Below W8.heap.size W8 _ by first | exact Below.refl _ _ | exact (Below.refl _ _).drew).trans hb9); have d0 := HCZ.out w9 HB9.out; have ht9 := HTZ.out w9 HB9.out; have z0 := cell_blk ht9.z 0 _ rfl; have z1 := cell_blk ht9.z 1 _ rfl; have z2 := cell_blk ht9.z 2 _ rfl; have z3 := cell_blk ht9.z 3 _ rfl; have z4 := cell_blk ht9.z 4 _ rfl; have fz := frz_blk ht9.z; have HT9 := hid ht9; have HI9 := hid hi9; have HIN9 := hid hin9; clear hi9 hin9 hb9 ht9) | fail)
      go_wp2_with fail
      obtain rfl : n9 = (partsOf (joinG G m) (G.ever + 1)).length := by obtain ⟨⟨a, cap, e, _⟩, _⟩ := HI9.out; cases e; rfl
      clear z0 z1 z2 z3 z4 fz d0 c0
      have HT5 := hid ((HT9.out).five rfl (.int .i64 0) (.int .i64 (G.ever + 1)) (.int .i64 (G.gen + 1)) (.int .i64 0) (.slice a9 (partsOf (joinG G m) (G.ever + 1)).length c9))
      have HK5 := hid (five_keeps (w9) (w.heap.size + 1) (.int .i64 0) (.int .i64 (G.ever + 1)) (.int .i64 (G.gen + 1)) (.int .i64 0) (.slice a9 (partsOf (joinG G m) (G.ever + 1)).length c9))
      unfold five at HT5 HK5
      generalize ((((w9.setCell ⟨w.heap.size + 1, 0, none⟩ (.int .i64 0)).setCell ⟨w.heap.size + 1, 1, none⟩ (.int .i64 (G.ever + 1))).setCell ⟨w.heap.size + 1, 2, none⟩ (.int .i64 (G.gen + 1))).setCell ⟨w.heap.size + 1, 3, none⟩ (.int .i64 0)).setCell ⟨w.heap.size + 1, 4, none⟩ (.slice a9 (partsOf (joinG G m) (G.ever + 1)).length c9) = N5 at *
      have r0 := cell_blk HT5.out.z 0 _ rfl
      have r1 := cell_blk HT5.out.z 1 _ rfl
      have r2 := cell_blk HT5.out.z 2 _ rfl
      have r3 := cell_blk HT5.out.z 3 _ rfl
      have r4 := cell_blk HT5.out.z 4 _ rfl
      exact bodyPost_ret (v := .agg #[.int .i64 0, .int .i64 (G.ever + 1), .int .i64 (G.gen + 1), .int .i64 0, .slice a9 (partsOf (joinG G m) (G.ever + 1)).length c9]) (by simp [results, Try.results38, go_sem, r0, r1, r2, r3, r4]) rfl (by
        have hend := join_end (t := joinT G m) HZQ.out HZB.out HZE.out HZL.out HBW1.out hs1' HA4.out HX4.out HO4.out HK4.out HNM.out HK8.out (by rw [← HKX.out]; exact HGM.out) HOS.out HB9.out HK5.out (by rw [HJT.out]; exact HI9.out) (by rw [HJT.out]; exact HIN9.out)
        rw [HN4.out, show (({ S with gs := madeG S.gs m.key } : Gs)).gs = madeG S.gs m.key from rfl, made_get HOK.out.names] at hend
        rw [← HGF.out]
        rw [HJT.out] at hend ⊢
        exact hend)
    · have ha' : (m.a == 0) = false := by simp [ha]
      have HC5 := HC4
      have HK5a : Hid (Keeps (Own k vm ob) w4 w4) := Keeps.refl _ _
      have HV5 : Hid (∀ j, vm.ownBlock = some j → vm.ownBlock = some j ∨ w4.heap.size ≤ j) := fun j hj => .inl hj
      have HX5 : Hid (joinX G m = G ∧ joinD G m = m.a) := ⟨by unfold joinX; rw [if_neg ha], by unfold joinD; rw [if_neg ha]⟩
      clear HADM
      have ht5 := HT4.out.next HK5a.out (fun j hj => (HXZ.out j (HOW4.out j hj)).1) (fun hj => (HXZ.out _ (HOW4.out _ hj)).2.1 rfl) (fun hj => (HXZ.out _ (HOW4.out _ hj)).2.2 rfl)
      have HT5 := hid ht5
      have HL5 := hid (HL4.out.keeps HK5a.out (HLX.out.mono fun j hj e => hj (HOW4.out j e)))
      have HCLN := hid (clone_any HL5.out)
      have b7 := cell_blk ht5.x 7 _ rfl
      have hcn := HC5.out.cells
      have HQ5 : Hid (∀ V, Below w4.heap.size w4 V → V.heap[k]? = some (.cells #[.int .i64 G.gen, .int .i64 G.ever, vm, vp, .map (some ob)] 72 (0, 0))) := fun V hV => (hV.block k (HC5.out.lt (.inl rfl))).trans HC5.out.cells
      have hXg : G.gen = G.gen := rfl
      have hgw : IntKind.i64.wrap (G.gen + 1) = G.gen + 1 := IntWalk.i64_in _ ⟨by rw [hXg]; omega, by rw [hXg]; omega⟩
      clear ht5 hcn hXg
      go_wp2_with fail
      refine HCLN.out.mono ?_
      rintro e w6 ⟨v6, rfl, hi6, hin6, hb6⟩
      obtain ⟨a6, n6, c6, rfl⟩ : ∃ a n c, v6 = .slice a n c := by obtain ⟨⟨a, cap, e, _⟩, _⟩ := hi6; exact ⟨_, _, _, e⟩
      have hq6 := HQ5.out w6 hb6
      have q3 := cell_blk hq6 3 _ rfl
      have q0 := cell_blk hq6 0 _ rfl
      have fq := frz_blk hq6
      have hs45 := HK5a.out.size
      have hap6 : In (fun j => ¬ Own k vm ob j) (.slice a6 n6 c6) m.list := hin6.mono fun j hj ho => by
        have := HC5.out.lt ho
        omega
      have hC8 := ((HC5.out.under hb6).setp hi6 hap6).setg (G.gen + 1)
      have hk8 : Keeps (fun j => j = k) w6 ((w6.setCell ⟨k, 3, none⟩ (.slice a6 n6 c6)).setCell ⟨k, 0, none⟩ (.int .i64 (G.gen + 1))) := (Keeps.set (S := fun j => j = k) w6 (a := ⟨k, 3, none⟩) rfl _).trans (Keeps.set (S := fun j => j = k) _ (a := ⟨k, 0, none⟩) rfl _) (fun _ k => .inl k)
      have hK8 : Keeps x.own w4 ((w6.setCell ⟨k, 3, none⟩ (.slice a6 n6 c6)).setCell ⟨k, 0, none⟩ (.int .i64 (G.gen + 1))) := ((HK5a.out.mono HOW4.out).trans (Keeps.of_below (S := x.own) hb6) (fun _ k => .inl k)).trans hk8 (fun j hj => .inl (by cases hj; exact hkl))
      have ht8 := (HT5.out.under hb6).next hk8 (fun j hj => (HXZ.out j (by cases hj; exact hkl)).1) (fun hj => hk3 hj) (fun hj => hk4' hj)
      have hGM : GrM ((w6.setCell ⟨k, 3, none⟩ (.slice a6 n6 c6)).setCell ⟨k, 0, none⟩ (.int .i64 (G.gen + 1))) (fun j => Own k vm ob j ∨ (blk (.slice a6 n6 c6) j ∧ m.list ≠ [])) k { { G with parts := m.list } with gen := G.gen + 1 } := ⟨vm, _, ob, hC8, fun j hj => .inl hj, fun hne b' off n c e => .inr ⟨⟨off, n, c, e⟩, hne⟩, fun j hj => hj.elim (fun h => hC8.lt h) (fun h => by obtain ⟨⟨off, n, c, e⟩, hne⟩ := h; exact hC8.parts.old hne j off n c e)⟩
      have hOS : ∀ j, (Own k vm ob j ∨ (blk (.slice a6 n6 c6) j ∧ m.list ≠ [])) → x.own j ∨ w4.heap.size ≤ j := fun j hj => by
        rcases hj with (h | h | h) | ⟨⟨off, n, c, e⟩, hne⟩
        · exact .inl (by rw [h]; exact hkl)
        · exact .inl (HOW4.out j (.inr (.inl h)))
        · rcases HV5.out j h with h2 | h2
          · exact .inl (HOW4.out j (.inr (.inr h2)))
          · exact .inr h2
        · have := hin6 hne j off n c e
          exact .inr (by omega)
      have HC8 := hid hC8
      have HK8 := hid hK8
      have HT8 := hid ht8
      have HGM := hid hGM
      have HOS := hid hOS
      have HY : Hid (({ { G with parts := m.list } with gen := G.gen + 1 } : Gr) = joinG G m) := by show _ = _; unfold joinG; rw [HX5.out.1]
      clear hi6 hin6 hb6 hq6 hap6 hC8 hk8 hK8 ht8 hGM hOS HQ5 HCLN
      go_upto_region 9 with fail
      clear q3 q0 fq b7
      generalize (w6.setCell ⟨k, 3, none⟩ (.slice a6 n6 c6)).setCell ⟨k, 0, none⟩ (.int .i64 (G.gen + 1)) = W8 at *
      rw [HY.out] at HC8 HGM
      have hfy : (joinG G m).mem.length ≤ 1000 := by
        have : (joinG G m).mem = (joinX G m).mem := rfl
        rw [this, HX5.out.1]
        first | omega | (simp [admitG]; omega)
      have hidy : ∀ y ∈ (joinG G m).mem, I64 y.id := by
        have : (joinG G m).mem = (joinX G m).mem := rfl
        rw [this, HX5.out.1]
        intro y hy
        first
          | exact HG0.out.id64 y hy
          | (rcases List.mem_append.1 hy with h | h
             · exact HG0.out.id64 y h
             · obtain rfl := List.mem_singleton.1 h; unfold I64; constructor <;> (show _ ≤ _; simp only; omega))
      have HPO : Hid (∀ V, Below W8.heap.size W8 V → Calls Try.prog 49 #[.pointer (some ⟨k, 0, none⟩), .int .i64 m.a] V fun e w' => ∃ v', e = .returned v' ∧ IL w' v' (partsOf (joinG G m) m.a) ∧ In (fun b => V.heap.size ≤ b) v' (partsOf (joinG G m) m.a) ∧ Below V.heap.size V w') := fun V hV => by
        have := HHAS.out
        rw [HX5.out.2] at this
        exact partsOf_any (HC8.out.under hV).read hfy hidy m.a this
      have c0 : W8.cell? ⟨k, 0, none⟩ = some (.int .i64 (G.gen + 1)) := HC8.out.read.c0
      have HJT : Hid (joinT G m = ⟨0, m.a, G.gen + 1, 0, partsOf (joinG G m) m.a⟩) := by show _ = _; unfold joinT; rw [HX5.out.2]
      have HTZ : Hid (∀ V, Below W8.heap.size W8 V → TB Z w V (#[.int .i64 m.kind, .int .i64 m.a, .int .i64 m.b, .int .i64 m.c, .int .i64 m.d, .string m.name, .string m.text, .slice la m.list.length lc]) (#[.int .i64 0, .int .i64 0, .int .i64 0, .int .i64 0, .slice none 0 0])) := fun V hV => HT8.out.under hV
      have HCZ : Hid (∀ V, Below W8.heap.size W8 V → V.cell? ⟨k, 0, none⟩ = some (.int .i64 (G.gen + 1))) := fun V hV => kept_cell hV c0
      clear hfy hidy
      go_wp2_with fail
      go_region_held3 (fun V => V.cell? ⟨k, 0, none⟩ = some (.int .i64 (G.gen + 1))) (go_keep)
        (first | (go_at_call 49; refine (HPO.out _ (by first | exact Below.refl _ _ | exact (Below.refl _ _).drew)).mono ?_; rintro e w9 ⟨v9, rfl, hi9, hin9, hb9⟩; obtain ⟨a9, n9, c9, rfl⟩ : ∃ a n c, v9 = .slice a n c := (by obtain ⟨⟨a, cap, e, _⟩, _⟩ := hi9; exact ⟨_, _, _, e⟩); have HB9 := hid ((show Below W8.heap.size W8 _ by first | exact Below.refl _ _ | exact (Below.refl _ _).drew).trans hb9); have d0 := HCZ.out w9 HB9.out; have ht9 := HTZ.out w9 HB9.out; have z0 := cell_blk ht9.z 0 _ rfl; have z1 := cell_blk ht9.z 1 _ rfl; have z2 := cell_blk ht9.z 2 _ rfl; have z3 := cell_blk ht9.z 3 _ rfl; have z4 := cell_blk ht9.z 4 _ rfl; have fz := frz_blk ht9.z; have HT9 := hid ht9; have HI9 := hid hi9; have HIN9 := hid hin9; clear hi9 hin9 hb9 ht9) | fail)
      go_wp2_with fail
      obtain rfl : n9 = (partsOf (joinG G m) m.a).length := by obtain ⟨⟨a, cap, e, _⟩, _⟩ := HI9.out; cases e; rfl
      clear z0 z1 z2 z3 z4 fz d0 c0
      have HT5 := hid ((HT9.out).five rfl (.int .i64 0) (.int .i64 m.a) (.int .i64 (G.gen + 1)) (.int .i64 0) (.slice a9 (partsOf (joinG G m) m.a).length c9))
      have HK5 := hid (five_keeps (w9) (w.heap.size + 1) (.int .i64 0) (.int .i64 m.a) (.int .i64 (G.gen + 1)) (.int .i64 0) (.slice a9 (partsOf (joinG G m) m.a).length c9))
      unfold five at HT5 HK5
      generalize ((((w9.setCell ⟨w.heap.size + 1, 0, none⟩ (.int .i64 0)).setCell ⟨w.heap.size + 1, 1, none⟩ (.int .i64 m.a)).setCell ⟨w.heap.size + 1, 2, none⟩ (.int .i64 (G.gen + 1))).setCell ⟨w.heap.size + 1, 3, none⟩ (.int .i64 0)).setCell ⟨w.heap.size + 1, 4, none⟩ (.slice a9 (partsOf (joinG G m) m.a).length c9) = N5 at *
      have r0 := cell_blk HT5.out.z 0 _ rfl
      have r1 := cell_blk HT5.out.z 1 _ rfl
      have r2 := cell_blk HT5.out.z 2 _ rfl
      have r3 := cell_blk HT5.out.z 3 _ rfl
      have r4 := cell_blk HT5.out.z 4 _ rfl
      exact bodyPost_ret (v := .agg #[.int .i64 0, .int .i64 m.a, .int .i64 (G.gen + 1), .int .i64 0, .slice a9 (partsOf (joinG G m) m.a).length c9]) (by simp [results, Try.results38, go_sem, r0, r1, r2, r3, r4]) rfl (by
        have hend := join_end (t := joinT G m) HZQ.out HZB.out HZE.out HZL.out HBW1.out hs1' HA4.out HX4.out HO4.out HK4.out HNM.out HK8.out (by rw [← HKX.out]; exact HGM.out) HOS.out HB9.out HK5.out (by rw [HJT.out]; exact HI9.out) (by rw [HJT.out]; exact HIN9.out)
        rw [HN4.out, show (({ S with gs := madeG S.gs m.key } : Gs)).gs = madeG S.gs m.key from rfl, made_get HOK.out.names] at hend
        rw [← HGF.out]
        rw [HJT.out] at hend ⊢
        exact hend)
  · rw [if_pos h0]
    have h0' : (E0 == 0) = false := by simpa using h0
    clear HJZ
    go_enter Try.func38, Try.ntmps38
    go_wp2_with fail
    generalize (w.alloc (.cells #[.int .i64 m.kind, .int .i64 m.a, .int .i64 m.b, .int .i64 m.c, .int .i64 m.d, .string m.name, .string m.text, .slice la m.list.length lc] 32)).alloc (.cells #[.int .i64 0, .int .i64 0, .int .i64 0, .int .i64 0, .slice none 0 0] 36) = W at *
    refine HJE.out.mono ?_
    rintro e w1 ⟨rfl, hb1⟩
    have ht1 := HT.out.under hb1
    have z0 := cell_blk ht1.z 0 _ rfl
    have z1 := cell_blk ht1.z 1 _ rfl
    have z2 := cell_blk ht1.z 2 _ rfl
    have z3 := cell_blk ht1.z 3 _ rfl
    have z4 := cell_blk ht1.z 4 _ rfl
    have fz := frz_blk ht1.z
    have HT1 := hid ht1
    have HB1 := hid hb1
    clear hb1 ht1 a0 a1 a2 a3 a4 a5 a6 a7 HJE
    go_wp2_with fail
    clear z0 z1 z2 z3 z4 fz
    have HT5 := hid ((HT1.out).five rfl (.int .i64 E0) (.int .i64 0) (.int .i64 0) (.int .i64 0) (.slice none 0 0))
    have HK5 := hid (five_keeps (w1) (w.heap.size + 1) (.int .i64 E0) (.int .i64 0) (.int .i64 0) (.int .i64 0) (.slice none 0 0))
    unfold five at HT5 HK5
    generalize ((((w1.setCell ⟨w.heap.size + 1, 0, none⟩ (.int .i64 E0)).setCell ⟨w.heap.size + 1, 1, none⟩ (.int .i64 0)).setCell ⟨w.heap.size + 1, 2, none⟩ (.int .i64 0)).setCell ⟨w.heap.size + 1, 3, none⟩ (.int .i64 0)).setCell ⟨w.heap.size + 1, 4, none⟩ (.slice none 0 0) = N5 at *
    have r0 := cell_blk HT5.out.z 0 _ rfl
    have r1 := cell_blk HT5.out.z 1 _ rfl
    have r2 := cell_blk HT5.out.z 2 _ rfl
    have r3 := cell_blk HT5.out.z 3 _ rfl
    have r4 := cell_blk HT5.out.z 4 _ rfl
    exact bodyPost_ret (v := .agg #[.int .i64 E0, .int .i64 0, .int .i64 0, .int .i64 0, .slice none 0 0]) (by simp [results, Try.results38, go_sem, r0, r1, r2, r3, r4]) rfl (⟨Z, (HH.out.under (HBW.out.trans (HB1.out.mono HBW.out.size))).kept (fun k hk => HK5.out.block k (by have := HZL.out k hk; have := HT1.out.s; omega) (fun e => by have := HZL.out k hk; omega)) HK5.out.size, fun k hk => .inl hk, HT5.out.k, told_nil⟩)
end Go.Proofs.Ytdnpbhijjmlecaa

