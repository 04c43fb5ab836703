/- A new member. -/
import Derived.Test.YtdnpbhijjmlecaaG21
namespace Go.Proofs.Ytdnpbhijjmlecaa
open Go.RowKit Go.Maps
set_option maxRecDepth 100000
set_option linter.unusedSimpArgs false
set_option linter.unusedVariables false

theorem step_append_own {w : World} {ops : Array Oper} {o : Oper} {a : Act} {K : Act → World → Prop} {Q : Exit → Act → World → Prop} {E : Prop} (hgd : o.guard = none) (s x : Operand) (t : TypeId)
    (ho : o.op = .call { callee := .builtin .append, args := #[s, x], argTypes := #[t, t] })
    (base : Nat) (e : TypeId) (i : TypeInfo) (z : Value) (size bytes : Nat) (ht : Try.prog.underlying t = some (.slice e)) (hi : Try.prog.info? e = some i) (hz : i.zero = some z)
    (hsize : i.size = size) (hby : i.bytes = bytes) (hzs : z.cells.size = size) (hsz : 0 < size)
    (v : Value) (n : Nat) (xs : List Value) (hs : a.eval s = v) (hown : w.ownsRow base e size v n xs)
    (ad : Addr) (m c : Nat) (news : List Value) (hx : a.eval x = .slice (some ad) m c) (hl : news.length = m * size) (hnews : ∀ j u, news[j]? = some u → w.cell? (ad.add j) = some u) (h1 : ∀ u ∈ news, u.oneCell' = true)
    (h63 : n + m ≤ maxLen) (hbytes : (n + m) * bytes ≤ 140737488355328) (hbase : base ≤ w.heap.size)
    (h : ∀ v' w', w'.ownsRow base e size v' (n + m) (xs ++ news) → w.grownBy w' v.ownBlock → (v' = .slice none 0 0 ↔ v = .slice none 0 0 ∧ m = 0) → (v'.ownBlock = v.ownBlock ∨ v'.ownBlock = some w.heap.size) → K (a.put o.dst v') w') :
    if Region.wanted o (yielded ops a.tmps) = true then Oper.wp Try.prog o a w K Q else E := by
  have hw : Region.wanted o (yielded ops a.tmps) = true := by simp [Region.wanted, hgd]
  rw [if_pos hw]
  obtain ⟨v', w', hr, h2, h3, h4, h5⟩ := run_append_own_at (P := Try.prog) w base t o.type e i z size bytes ht hi hz hsize hby hzs hsz v n xs hown ad m c news hl hnews h1 h63 hbytes hbase
  unfold Oper.wp execOp
  simp only [ho, resolve, invoke, builtin, Sem.run_bind, Sem.run_pure, Result.andThen_ok, List.map_toArray, List.map_cons, List.map_nil, hs, hx, hr]
  exact h v' w' h2 h3 h4 h5
/-- What admit leaves. -/
def AdmP (w : World) (q : Nat) (vm vp : Value) (ob : Nat) (x : Gr) (w' : World) : Prop := ∃ v2, GrC w' q v2 vp ob (admitG x) ∧ Keeps (Own q vm ob) w w' ∧ ∀ k, v2.ownBlock = some k → vm.ownBlock = some k ∨ w.heap.size ≤ k
theorem GrC.admit {w : World} {q ob : Nat} {vm vp : Value} {x : Gr} (h : GrC w q vm vp ob x) {w2 : World} {v2 : Value} (hg : (((w.setCell ⟨q, 1, none⟩ (.int .i64 (x.ever + 1))).alloc (.cells #[.int .i64 (x.ever + 1), .int .i64 (-1)] 84)).drew).grownBy w2 vm.ownBlock) (hr : w2.ownsRow 0 84 2 v2 (x.mem.length + 1) (flatM x.mem ++ [.int .i64 (x.ever + 1), .int .i64 (-1)])) (hat : v2.ownBlock = vm.ownBlock ∨ v2.ownBlock = some (((w.setCell ⟨q, 1, none⟩ (.int .i64 (x.ever + 1))).alloc (.cells #[.int .i64 (x.ever + 1), .int .i64 (-1)] 84)).drew).heap.size) :
    w2.heap[q]? = some (.cells #[.int .i64 x.gen, .int .i64 (x.ever + 1), vm, vp, .map (some ob)] 72 (0, 0)) ∧ AdmP w q vm vp ob x (w2.setCell ⟨q, 2, none⟩ v2) := by
  have hq := h.lt (.inl rfl)
  have hqm : vm.ownBlock ≠ some q := h.ne_qm
  have hom : vm.ownBlock ≠ some ob := h.ne_om
  have hqo := h.ne_qo
  have hol := h.lt (.inr (.inl rfl))
  have hsz : (((w.setCell ⟨q, 1, none⟩ (.int .i64 (x.ever + 1))).alloc (.cells #[.int .i64 (x.ever + 1), .int .i64 (-1)] 84)).drew).heap.size = w.heap.size + 1 := by simp
  obtain ⟨W1, hW1⟩ : ∃ W1, W1 = ((w.setCell ⟨q, 1, none⟩ (.int .i64 (x.ever + 1))).alloc (.cells #[.int .i64 (x.ever + 1), .int .i64 (-1)] 84)).drew := ⟨_, rfl⟩
  have hb1 : Below (w.setCell ⟨q, 1, none⟩ (.int .i64 (x.ever + 1))).heap.size (w.setCell ⟨q, 1, none⟩ (.int .i64 (x.ever + 1))) W1 := by rw [hW1]; exact ((Below.refl _ _).alloc (Nat.le_refl _) _).drew
  rw [← hW1] at hg hat hsz
  have hk1 : Keeps (Own q vm ob) w W1 := (Keeps.set (S := Own q vm ob) w (a := ⟨q, 1, none⟩) (.inl rfl) _).trans (Keeps.of_below (S := Own q vm ob) hb1) (fun _ k => .inl k)
  have hk2 : Keeps (Own q vm ob) w w2 := hk1.trans (Keeps.of_grown (S := Own q vm ob) hg (fun k hk => .inr (.inr hk))) (fun _ k => .inl k)
  have hk3 : Keeps (Own q vm ob) w (w2.setCell ⟨q, 2, none⟩ v2) := hk2.trans (Keeps.set (S := Own q vm ob) w2 (a := ⟨q, 2, none⟩) (.inl rfl) _) (fun _ k => .inl k)
  have hq1 : W1.heap[q]? = some (.cells #[.int .i64 x.gen, .int .i64 (x.ever + 1), vm, vp, .map (some ob)] 72 (0, 0)) := (hb1.block q (by simpa using hq)).trans (set_box (j := 1) (v := .int .i64 (x.ever + 1)) h.cells)
  have hq2 : w2.heap[q]? = some (.cells #[.int .i64 x.gen, .int .i64 (x.ever + 1), vm, vp, .map (some ob)] 72 (0, 0)) := (hg.block q (by omega) (fun e => hqm e.symm)).trans hq1
  have hv2 : ∀ k, v2.ownBlock = some k → vm.ownBlock = some k ∨ w.heap.size ≤ k := fun k hk => by
    rcases hat with e | e
    · rw [e] at hk; exact .inl hk
    · rw [e] at hk; cases hk; exact .inr (by omega)
  have hq2' : ∀ k, k ≠ q → (w2.setCell ⟨q, 2, none⟩ v2).heap[k]? = w2.heap[k]? := fun k hk => Below.heap_setCell _ _ _ _ hk
  refine ⟨hq2, v2, ⟨?_, ?_, h.parts.keeps hk3 h.apart, ?_, ?_⟩, hk3, hv2⟩
  · have := set_box (j := 2) (v := v2) hq2
    exact this
  · have e1 : (admitG x).mem.length = x.mem.length + 1 := by simp [admitG]
    have e2 : flatM (admitG x).mem = flatM x.mem ++ [.int .i64 (x.ever + 1), .int .i64 (-1)] := by simp [admitG, flatM_append, flatM]
    rw [e1, e2]
    exact row_kept hr (fun k hk => hq2' k (fun e => by
      rcases hv2 k hk with h1 | h1
      · exact hqm (by rw [← e]; exact h1)
      · omega))
  · obtain ⟨es, clock, hm, r⟩ := h.offs
    refine ⟨es, clock, ((hq2' ob hqo.symm).trans ?_).trans hm, r⟩
    have e1 : W1.heap[ob]? = w.heap[ob]? := (hb1.block ob (by simpa using hol)).trans (Below.heap_setCell _ _ _ _ hqo.symm)
    exact (hg.block ob (by omega) (fun e => hom e.symm)).trans e1
  · intro hn b off n c e hb
    have hbl : b < w.heap.size := h.parts.old hn b off n c e
    refine h.apart hn b off n c e ?_
    rcases hb with hb | hb | hb
    · exact .inl hb
    · exact .inr (.inl hb)
    · rcases hv2 b hb with h1 | h1
      · exact .inr (.inr h1)
      · omega
set_option maxHeartbeats 3200000 in
theorem admit_any {w : World} {q ob : Nat} {vm vp : Value} {x : Gr} (h : GrC w q vm vp ob x) (hf : x.mem.length ≤ 1000) (hev : 0 ≤ x.ever ∧ x.ever ≤ 1000000) :
    Calls Try.prog 48 #[.pointer (some ⟨q, 0, none⟩)] w fun e w' => e = .returned (.int .i64 (x.ever + 1)) ∧ AdmP w q vm vp ob x w' := by
  obtain ⟨i0, hi0, hz0, hz1, hz2⟩ := info84
  have c1 := h.read.c1
  have c2 := h.read.c2
  have fq := h.read.fz
  have hq := h.lt (.inl rfl)
  have HH := hid h
  have HADM : Hid (∀ w2 v2, (((w.setCell ⟨q, 1, none⟩ (.int .i64 (x.ever + 1))).alloc (.cells #[.int .i64 (x.ever + 1), .int .i64 (-1)] 84)).drew).grownBy w2 vm.ownBlock → w2.ownsRow 0 84 2 v2 (x.mem.length + 1) (flatM x.mem ++ [.int .i64 (x.ever + 1), .int .i64 (-1)]) → (v2.ownBlock = vm.ownBlock ∨ v2.ownBlock = some (((w.setCell ⟨q, 1, none⟩ (.int .i64 (x.ever + 1))).alloc (.cells #[.int .i64 (x.ever + 1), .int .i64 (-1)] 84)).drew).heap.size) → w2.heap[q]? = some (.cells #[.int .i64 x.gen, .int .i64 (x.ever + 1), vm, vp, .map (some ob)] 72 (0, 0)) ∧ AdmP w q vm vp ob x (w2.setCell ⟨q, 2, none⟩ v2)) := fun w2 v2 a b c => HH.out.admit a b c
  have HROW : Hid ((((w.setCell ⟨q, 1, none⟩ (.int .i64 (x.ever + 1))).alloc (.cells #[.int .i64 (x.ever + 1), .int .i64 (-1)] 84)).drew).ownsRow 0 84 2 vm x.mem.length (flatM x.mem)) := by
    have hb1 : Below (w.setCell ⟨q, 1, none⟩ (.int .i64 (x.ever + 1))).heap.size (w.setCell ⟨q, 1, none⟩ (.int .i64 (x.ever + 1))) (((w.setCell ⟨q, 1, none⟩ (.int .i64 (x.ever + 1))).alloc (.cells #[.int .i64 (x.ever + 1), .int .i64 (-1)] 84)).drew) := ((Below.refl _ _).alloc (Nat.le_refl _) _).drew
    exact row_kept h.mem (fun k hk => (hb1.block k (by have := row_lt h.mem hk; simpa using this)).trans (Below.heap_setCell _ _ _ _ (fun e => h.ne_qm (by cases e; exact hk))))
  have hew : IntKind.i64.wrap (x.ever + 1) = x.ever + 1 := IntWalk.i64_in _ ⟨by omega, by omega⟩
  obtain ⟨oa, cap, rfl, _⟩ := row_shape h.mem
  generalize hE0 : x.ever = e0 at *
  clear hE0
  have HNE : Hid (∀ j u, ([.int .i64 (e0 + 1), .int .i64 (-1)] : List Value)[j]? = some u → (((w.setCell ⟨q, 1, none⟩ (.int .i64 (e0 + 1))).alloc (.cells #[.int .i64 (e0 + 1), .int .i64 (-1)] 84)).drew).cell? ((⟨w.heap.size, 0, none⟩ : Addr).add j) = some u) := fun j u hu => by
    have hb : (((w.setCell ⟨q, 1, none⟩ (.int .i64 (e0 + 1))).alloc (.cells #[.int .i64 (e0 + 1), .int .i64 (-1)] 84)).drew).heap[w.heap.size]? = some (.cells #[.int .i64 (e0 + 1), .int .i64 (-1)] 84) := by
      have h2 := heap_alloc_new (w.setCell ⟨q, 1, none⟩ (.int .i64 (e0 + 1))) (.cells #[.int .i64 (e0 + 1), .int .i64 (-1)] 84)
      rw [show (w.setCell ⟨q, 1, none⟩ (.int .i64 (e0 + 1))).heap.size = w.heap.size by simp] at h2
      exact h2
    rw [add_at, Nat.zero_add]
    exact cell_blk hb j u (by simpa using hu)
  have HON : Hid (∀ u ∈ ([.int .i64 (e0 + 1), .int .i64 (-1)] : List Value), u.oneCell' = true) := fun u hu => by
    simp only [List.mem_cons, List.not_mem_nil, or_false] at hu
    rcases hu with rfl | rfl <;> rfl
  have hne : ¬ q = w.heap.size := by omega
  have hne2 : ¬ w.heap.size = q := by omega
  clear h HH
  go_enter Try.func48, Try.ntmps48
  go_wp2_with fail
  go_region_law (first
    | (refine step_append_own (by rfl) (.tmp 14) (.tmp 20) 69 (by rfl) 0 84 i0 _ 2 16 Try.underlying69 hi0 hz0 hz1 hz2 rfl (by decide) (.slice oa x.mem.length cap) x.mem.length (flatM x.mem) (by simp [Act.eval, Act.put]) HROW.out ⟨w.heap.size, 0, none⟩ 1 1 [.int .i64 (e0 + 1), .int .i64 (-1)] (by simp [Act.eval, Act.put]) rfl HNE.out HON.out (by unfold maxLen; omega) (by omega) (Nat.zero_le _) ?_; intro v5 w5 hown5 hg5 _ hat5; obtain ⟨hq5, hadm⟩ := HADM.out w5 v5 hg5 hown5 hat5; have HAD := hid hadm; have q2 := cell_blk hq5 2 _ rfl; have q1 := cell_blk hq5 1 _ rfl; have fq5 := frz_blk hq5; obtain ⟨a5, n5, c5, rfl⟩ : ∃ a n c, v5 = .slice a n c := (by obtain ⟨oa, cap, e, _⟩ := row_shape hown5; exact ⟨_, _, _, e⟩); clear hown5 hg5 hat5 hadm)
    | fail)
  all_goals
    go_wp2_with fail
    go_ret
    exact ⟨rfl, HAD.out⟩
end Go.Proofs.Ytdnpbhijjmlecaa
