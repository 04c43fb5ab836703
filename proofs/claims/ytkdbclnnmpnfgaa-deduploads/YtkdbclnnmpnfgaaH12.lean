/- Note: a batch that lies in the log. -/
import Derived.Test.YtkdbclnnmpnfgaaH11
import Derived.Deep.RegionLaw
namespace Go.Proofs.Ytkdbclnnmpnfgaa
open Go.RowKit Go.Maps
set_option maxRecDepth 100000
set_option linter.unusedSimpArgs false
set_option linter.unusedVariables false

def ntOf (b : Bat) : Nt := ⟨b.pidEpoch, b.seq, b.recs.length, b.base⟩
def noteT (T : Tb) (b : Bat) : Tb :=
  if b.pid = 0 ∨ rightL b ≠ 0 then T
  else if folB (tget T b.pid) (ntOf b) = true then tput T b.pid (tget T b.pid ++ [ntOf b]) else T

theorem right_nt {b : Bat} (h : rightL b = 0) (hp : b.pid ≠ 0) : NtOk (ntOf b) ∧ 1 ≤ b.pid ∧ b.pid ≤ 1000000000 := by
  obtain ⟨h1, h2, h3, h4, h5, h6, h7⟩ := rightL_ok h
  have hpos := List.length_pos_iff.2 h3
  unfold numsB inB at h1
  unfold overB at h6
  simp at h1 h6
  refine ⟨⟨?_, ?_, ?_, ?_⟩, ?_, ?_⟩ <;> (try simp only [ntOf]) <;> omega
theorem TAfter.same {S : Nat → Prop} {w w' : World} {q : Nat} {T : Tb} (h : Tab w S q T) (hb : Below w.heap.size w w') : TAfter S w w' q T :=
  ⟨S, h.under hb, fun k hk => .inl hk, fun k hk => hk, Keeps.of_below hb⟩

def ntCells (x : Nt) : List Value := [.int .i64 x.ep, .int .i64 x.seq, .int .i64 x.n, .int .i64 x.off]
theorem flat_snoc (l : List Nt) (x : Nt) : flatN (l ++ [x]) = flatN l ++ ntCells x := by rw [flatN_append]; simp [flatN, ntCells]

theorem note_put {w W w5 : World} {S : Nat → Prop} {q b : Nat} {fs : FM} (h : TabM w S q b fs) (hW : Below w.heap.size w W) {pid : Int} (hp : 1 ≤ pid ∧ pid ≤ 1000000000) {x : Nt} (hx : NtOk x) (hf : folB (tget (abs fs) pid) x = true) (hc : cntT (abs fs) < 100000)
    {g c : Nat} (hown : w5.ownsRow 0 64 4 (.slice (some ⟨g, 0, none⟩) ((tget (abs fs) pid).length + 1) c) ((tget (abs fs) pid).length + 1) (flatN (tget (abs fs) pid) ++ ntCells x)) (hg : W.grownBy w5 (fval fs pid).ownBlock) (hat : (fval fs pid).ownBlock = some g ∨ g = W.heap.size) :
    w5.cell? ⟨q, 0, none⟩ = some (.map (some b)) ∧ (∀ k, w.heap.size ≤ k → k < W.heap.size → w5.heap[k]? = W.heap[k]?) ∧
    ∃ w6, (Instr.mapUpdate 53 (.map (some b)) (.int .i64 pid) (.slice (some ⟨g, 0, none⟩) ((tget (abs fs) pid).length + 1) c)).run Try.prog w5 = .ok () w6 ∧ TAfter S w w6 q (tput (abs fs) pid (tget (abs fs) pid ++ [x])) := by
  have hN := h.at_ pid
  have hws := hW.size
  have hq := h.below q h.self
  have hmb : ∃ es clock, w.heap[b]? = some (.map es clock) := by obtain ⟨es, clock, e, _⟩ := h.files; exact ⟨es, clock, e⟩
  obtain ⟨es, clock, hmb⟩ := hmb
  have hqne : (fval fs pid).ownBlock ≠ some q := fun e => by
    obtain ⟨cur, hc⟩ := hN.1.block q e
    rw [h.cells] at hc
    simp only [Option.some.injEq, Obj.cells.injEq] at hc
    exact absurd hc.2.1 (by decide)
  have hbne : (fval fs pid).ownBlock ≠ some b := fun e => by
    obtain ⟨cur, hc⟩ := hN.1.block b e
    rw [hmb] at hc; cases hc
  have hqb : q ≠ b := fun e => by rw [← e, h.cells] at hmb; cases hmb
  have hbl : b < w.heap.size := h.below b h.mapS
  have h5 : ∀ k, k < w.heap.size → (fval fs pid).ownBlock ≠ some k → w5.heap[k]? = w.heap[k]? := fun k hk hne => (hg.block k (by omega) (fun e => hne e.symm)).trans (hW.block k hk)
  have hq5 := (h5 q hq hqne).trans h.cells
  have hb5 := (h5 b hbl hbne).trans hmb
  have hown5 : w5.ownsMap Try.prog 3 Rh b fs.length (dmap fs) := by
    obtain ⟨es, clock, hm, r⟩ := h.files
    exact ⟨es, clock, (h5 b hbl hbne).trans hm, r⟩
  have hfl : fs.length ≤ 100000 := by have := h.ok.len; unfold abs at this; simpa using this
  obtain ⟨w6, hrun, hown6, ht⟩ := hown5.store law3 Try.underlying53 (by unfold maxLen; omega) (keyOf_int_mk Try.underlying3 (wf_of (k := pid) (by unfold I64; omega))) (Rh_mk (some ⟨g, 0, none⟩) ((tget (abs fs) pid).length + 1) c)
  have hg6 := ht.grown
  have h56 := hg.size
  have h66 := hg6.size
  have hgl : g < w5.heap.size := (World.ownsRow.lt hown g rfl).2
  have hkeep : ∀ k, k < w.heap.size → (fval fs pid).ownBlock ≠ some k → k ≠ b → w6.heap[k]? = w.heap[k]? := fun k hk hne hb => (hg6.block k (by omega) (by simpa using hb)).trans (h5 k hk hne)
  have hNL : NL w5 (.slice (some ⟨g, 0, none⟩) ((tget (abs fs) pid).length + 1) c) (tget (abs fs) pid ++ [x]) := by
    unfold NL
    rw [flat_snoc, List.length_append]
    exact hown
  have hgb : g ≠ b := fun e => by
    obtain ⟨cur, hc⟩ := hNL.block g rfl
    rw [e, hb5] at hc; cases hc
  refine ⟨cell_blk hq5 0 _ rfl, fun k h1 h2 => hg.block k h2 (fun e => ?_), w6, hrun, fun k => S k ∨ (w.heap.size ≤ k ∧ k < w6.heap.size), ⟨b, fput fs pid ⟨.slice (some ⟨g, 0, none⟩) ((tget (abs fs) pid).length + 1) c, tget (abs fs) pid ++ [x]⟩, ⟨fun k hk => ?_, .inl h.self, (hkeep q hq hqne hqb).trans h.cells, ?_, .inl h.mapS, fun p hp => ?_, ?_, ?_⟩, abs_fput _ _ _⟩, fun k hk => ?_, fun k hk => .inl hk, ?_⟩
  · have := h.below k (hN.2 k e.symm); omega
  · rcases hk with hk | hk
    · have := h.below k hk; omega
    · exact hk.2
  · rw [show (DataW.held (Value.slice (some ⟨g, 0, none⟩) ((tget (abs fs) pid).length + 1) c)) = (DataW.held (⟨.slice (some ⟨g, 0, none⟩) ((tget (abs fs) pid).length + 1) c, tget (abs fs) pid ++ [x]⟩ : NE).sv : DataW Value) from rfl, dmap_put] at hown6
    have := tight hown6
    rw [dmap_size] at this
    exact this
  · rcases (mem_fput _ _ _ _).1 hp with rfl | ⟨hpm, hpn⟩
    · refine ⟨hNL.kept (fun k hk => ?_), fun k hk => ?_⟩
      · cases hk
        exact hg6.block g hgl (by simpa using hgb)
      · cases hk
        rcases hat with h1 | h1
        · exact .inl (hN.2 g h1)
        · exact .inr ⟨by simp only; omega, by simp only; omega⟩
    · obtain ⟨o1, o2⟩ := h.owns p hpm
      refine ⟨o1.kept (fun k hk => hkeep k (o1.lt k hk) (fun e => ?_) (fun e => ?_)), fun k hk => .inl (o2 k hk)⟩
      · unfold fval at e
        cases hfl2 : flook fs pid with
        | none => rw [hfl2] at e; cases e
        | some f =>
          rw [hfl2] at e
          exact apart_mem h.apart (flook_mem hfl2) hpm (fun e => hpn e.symm) e hk
      · obtain ⟨cur, hc⟩ := o1.block k hk
        rw [e, hmb] at hc; cases hc
  · refine apart_fput _ _ h.apart (fun p hpm hpn k hk e => ?_)
    cases hk
    rcases hat with h1 | h1
    · unfold fval at h1
      cases hfl2 : flook fs pid with
      | none => rw [hfl2] at h1; cases h1
      | some f =>
        rw [hfl2] at h1
        exact apart_mem h.apart (flook_mem hfl2) hpm (fun e => hpn e.symm) h1 e
    · have := (h.owns p hpm).1.lt _ e; simp only at this; omega
  · rw [abs_fput]
    refine h.ok.put hp ((h.ok.get pid).1.snoc hx hf) (by simp) ?_
    simp only [List.length_append, List.length_singleton]; omega
  · rcases hk with hk | hk
    · exact .inl hk
    · exact .inr hk.1
  · refine ⟨hg6.os.trans (hg.os.trans hW.os), hg6.tape.trans (hg.tape.trans hW.tape), hg6.output.trans (hg.output.trans hW.output), by omega, fun k hk hS => hkeep k hk (fun e => hS (hN.2 k e)) (fun e => hS (e ▸ h.mapS))⟩

set_option maxHeartbeats 6400000 in
theorem note_any {w : World} {S : Nat → Prop} {q : Nat} {T : Tb} (h : Tab w S q T) (bt : Bat) (a : Option Addr) (cap : Nat) (hr : Recs w (.slice a bt.recs.length cap) bt.recs) (hi : bt.ints) (hc : cntT T < 100000) :
    Calls Try.prog 12 #[.pointer (some ⟨q, 0, none⟩), .agg #[.int .i64 bt.base, .int .i64 bt.epoch, .int .i64 bt.pid, .int .i64 bt.pidEpoch, .int .i64 bt.seq, .slice a bt.recs.length cap]] w fun e w' => e = .returned (.tuple #[]) ∧ TAfter S w w' q (noteT T bt) := by
  have HT := hid h
  have HX0 := hid (Boxed.laid w (.cells #[.int .i64 bt.base, .int .i64 bt.epoch, .int .i64 bt.pid, .int .i64 bt.pidEpoch, .int .i64 bt.seq, .slice a bt.recs.length cap] 33))
  have hb0 := HX0.out.below
  by_cases hp0 : bt.pid = 0
  · have HF : Hid (noteT T bt = T) := by show _ = _; unfold noteT; rw [if_pos (.inl hp0)]
    have HB0 := hid hb0
    clear hr hi h hb0
    rw [hp0]
    rw [hp0] at HB0
    go_enter Try.func12, Try.ntmps12
    go_wp2_with fail
    exact bodyPost_ret (v := .tuple #[]) (by simp [results, Try.results12, go_sem]) rfl ⟨rfl, by rw [HF.out]; exact TAfter.same HT.out HB0.out⟩
  · have hb0' := hb0
    have HR := hid (right_any bt a cap ⟨by obtain ⟨a', c', e, ha⟩ := hr.shape; exact ⟨a', c', e, ha.under hb0⟩, hr.ok, hr.len⟩ hi)
    by_cases hrt : rightL bt = 0
    · obtain ⟨hnt, hpid⟩ := right_nt hrt hp0
      obtain ⟨b, fs, hM, rfl⟩ := h
      have HM := hid hM
      have hin := hi
      obtain ⟨i0, i1, i2, i3, i4⟩ := hin
      have hgt := hM.ok.get bt.pid
      have HNT := hid hnt
      have HGT := hid hgt
      have hp1 : (bt.pid == 0) = false := by simpa using hp0
      rw [hrt] at HR
      have HRT := hid hrt
      have n1 := hnt.ep; have n2 := hnt.n; have n3 := hnt.seq; have n4 := hnt.off
      simp only [ntOf] at n1 n2 n3 n4
      have hlen := hr.len
      clear hr hi hM hb0 hb0' hrt hnt hgt
      unfold maxLen at hlen
      go_enter Try.func12, Try.ntmps12
      go_wp2_with fail
      refine HR.out.mono ?_
      rintro e w1 ⟨rfl, hb1⟩
      have HX1 := hid (HX0.out.next hb1)
      clear hb1 HR
      obtain ⟨z0, z1, z2, z3, z4, z5⟩ := six HX1.out
      have HM1 := hid (HM.out.under HX1.out.below)
      have c1 := HM1.out.c0
      have hlk := HM1.out.look bt.pid i2
      have hlk1 : ∀ n, (Instr.lookup 53 (.map (some b)) (.int .i64 bt.pid) false).run Try.prog (w1.drewN n) = .ok (fval fs bt.pid) (w1.drewN n) := fun n => (TabM.kept (w1 := w1.drewN n) HM1.out (fun k hk => rfl) (Nat.le_refl _)).look bt.pid i2
      go_wp2_with fail
      go_quiet (fail)
      have HX2 := hid (HX1.out.drewN nq)
      have HM2 := hid (TabM.kept (w1 := w1.drewN nq) HM1.out (fun k hk => rfl) (Nat.le_refl _))
      clear hlk hlk1 c1 z0 z1 z2 z3 z4 z5 HM1 HX1
      generalize w1.drewN nq = W1 at *
      obtain ⟨z0, z1, z2, z3, z4, z5⟩ := six HX2.out
      have c1 := HM2.out.c0
      have hW1s := HX2.out.lt
      have hqw := HM.out.below q HM.out.self
      have hNL := (HM2.out.at_ bt.pid).1
      obtain ⟨oa, cp, hsv, hcap, hcm, hnn, hoa⟩ := hNL.shape
      have HSV := hid hsv
      have HNL := hid hNL
      have hb3 : Below W1.heap.size W1 (W1.alloc (.cells #[.int .i64 bt.pidEpoch, .int .i64 bt.seq, .int .i64 (bt.recs.length : Int), .int .i64 bt.base] 64)) := (Below.refl _ _).alloc (Nat.le_refl _) _
      have hfew := HM.out.ok.few
      have HFo := hid (follows_any (hNL.under hb3) HGT.out.1 (by have := HGT.out.2; omega) (ntOf bt) HNT.out)
      simp only [ntOf] at HFo
      have HX3 := hid (HX2.out.next hb3)
      have HY3 := hid (heap_alloc_new W1 (.cells #[.int .i64 bt.pidEpoch, .int .i64 bt.seq, .int .i64 (bt.recs.length : Int), .int .i64 bt.base] 64))
      rw [hsv] at HFo ⊢
      clear hsv hNL hb3 hnn hoa
      go_wp2_with fail
      refine HFo.out.mono ?_
      rintro e w3 ⟨rfl, hb3⟩
      have HX4 := hid (HX3.out.next hb3)
      have HY4 := hid ((hb3.block W1.heap.size (by simp)).trans HY3.out)
      have hw3s := hb3.size
      simp at hw3s
      clear hb3 HFo HX3 HY3 z0 z1 z2 z3 z4 z5
      cases hfo : folB (tget (abs fs) bt.pid) (ntOf bt) with
      | false =>
        have HF : Hid (noteT (abs fs) bt = abs fs) := by show _ = _; unfold noteT; rw [if_neg (by have := HRT.out; simp [hp0, this]), hfo]; rfl
        simp only [ntOf] at hfo
        rw [hfo]
        go_wp2_with fail
        exact bodyPost_ret (v := .tuple #[]) (by simp [results, Try.results12, go_sem]) rfl ⟨rfl, by rw [HF.out]; exact TAfter.same HT.out HX4.out.below⟩
      | true =>
        have HF : Hid (noteT (abs fs) bt = tput (abs fs) bt.pid (tget (abs fs) bt.pid ++ [ntOf bt])) := by show _ = _; unfold noteT; rw [if_neg (by have := HRT.out; simp [hp0, this]), hfo]; rfl
        have HFol := hid hfo
        simp only [ntOf] at hfo
        rw [hfo]
        have he := fun W r => run_eql_map_nil (P := Try.prog) W 53 3 60 r Try.underlying53
        have c4 : w3.cell? ⟨q, 0, none⟩ = some (.map (some b)) := (World.cell?_of_block (a := ⟨q, 0, none⟩) (HX4.out.below.block q hqw)).trans HM.out.c0
        obtain ⟨z0, z1, z2, z3, z4, z5⟩ := six HX4.out
        have y0 := cell_blk HY4.out 0 _ rfl
        have y1 := cell_blk HY4.out 1 _ rfl
        have y2 := cell_blk HY4.out 2 _ rfl
        have y3 := cell_blk HY4.out 3 _ rfl
        obtain ⟨j0, hj0, hz0, hz1, hz2⟩ := info64
        have hbw : Below w3.heap.size w3 (w3.drew.alloc (.cells #[.int .i64 bt.pidEpoch, .int .i64 bt.seq, .int .i64 (bt.recs.length : Int), .int .i64 bt.base] 64)) := (Below.refl _ _).drew.alloc (Nat.le_refl _) _
        have hBW := HX4.out.below.trans (hbw.mono HX4.out.below.size)
        have HNL0 := (HM.out.at_ bt.pid).1
        rw [HSV.out] at HNL0
        have HROW : Hid ((w3.drew.alloc (.cells #[.int .i64 bt.pidEpoch, .int .i64 bt.seq, .int .i64 (bt.recs.length : Int), .int .i64 bt.base] 64)).ownsRow 0 64 4 (.slice oa (tget (abs fs) bt.pid).length cp) (tget (abs fs) bt.pid).length (flatN (tget (abs fs) bt.pid))) := HNL0.under hBW
        have hnb : (w3.drew.alloc (.cells #[.int .i64 bt.pidEpoch, .int .i64 bt.seq, .int .i64 (bt.recs.length : Int), .int .i64 bt.base] 64)).heap[w3.heap.size]? = some (.cells #[.int .i64 bt.pidEpoch, .int .i64 bt.seq, .int .i64 (bt.recs.length : Int), .int .i64 bt.base] 64) := heap_alloc_new w3.drew _
        have HNEW : Hid (∀ j u, (ntCells (ntOf bt))[j]? = some u → (w3.drew.alloc (.cells #[.int .i64 bt.pidEpoch, .int .i64 bt.seq, .int .i64 (bt.recs.length : Int), .int .i64 bt.base] 64)).cell? ((⟨w3.heap.size, 0, none⟩ : Addr).add j) = some u) := fun j u hu => by
          rw [add_lit0]
          refine cell_blk hnb j u ?_
          rw [← hu]
          simp [ntCells, ntOf]
        have HONE : Hid (∀ u ∈ ntCells (ntOf bt), u.oneCell' = true) := by
          intro u hu
          simp [ntCells] at hu
          rcases hu with rfl | rfl | rfl | rfl <;> rfl
        have HBW := hid hBW
        have hszW : (w3.drew.alloc (.cells #[.int .i64 bt.pidEpoch, .int .i64 bt.seq, .int .i64 (bt.recs.length : Int), .int .i64 bt.base] 64)).heap.size = w3.heap.size + 1 := by simp
        have HSZ := hid hszW
        have HG : Hid (∀ (w5 : World) (g c : Nat), w5.ownsRow 0 64 4 (.slice (some ⟨g, 0, none⟩) ((tget (abs fs) bt.pid).length + 1) c) ((tget (abs fs) bt.pid).length + 1) (flatN (tget (abs fs) bt.pid) ++ ntCells (ntOf bt)) → (w3.drew.alloc (.cells #[.int .i64 bt.pidEpoch, .int .i64 bt.seq, .int .i64 (bt.recs.length : Int), .int .i64 bt.base] 64)).grownBy w5 (Value.slice oa (tget (abs fs) bt.pid).length cp).ownBlock → ((Value.slice oa (tget (abs fs) bt.pid).length cp).ownBlock = some g ∨ g = w3.heap.size + 1) →
            w5.cell? ⟨q, 0, none⟩ = some (.map (some b)) ∧ w5.cell? ⟨w.heap.size, 2, none⟩ = some (.int .i64 bt.pid) ∧ ∃ w6, (Instr.mapUpdate 53 (.map (some b)) (.int .i64 bt.pid) (.slice (some ⟨g, 0, none⟩) ((tget (abs fs) bt.pid).length + 1) c)).run Try.prog w5 = .ok () w6 ∧ TAfter S w w6 q (tput (abs fs) bt.pid (tget (abs fs) bt.pid ++ [ntOf bt]))) := fun w5 g c h1 h2 h3 => by
          rw [← HSV.out] at h2 h3
          obtain ⟨g1, g2, g3⟩ := note_put HM.out HBW.out hpid HNT.out HFol.out hc h1 h2 (h3.imp id (fun e => by rw [HSZ.out]; exact e))
          refine ⟨g1, ?_, g3⟩
          have hk := g2 w.heap.size (Nat.le_refl _) (by rw [HSZ.out]; have := HX4.out.lt; omega)
          rw [World.cell?_of_block (a := ⟨w.heap.size, 2, none⟩) hk, World.cell?_of_block (a := ⟨w.heap.size, 2, none⟩) (hbw.block w.heap.size HX4.out.lt)]
          exact z2
        have HNC : Hid ((ntCells (ntOf bt)).length = 1 * 4) := rfl
        have hlim := HGT.out.2
        have hl1 : w.heap.size < w3.heap.size := HX4.out.lt
        have hl2 : W1.heap.size < w3.heap.size := by omega
        have hl3 : q < w3.heap.size := by omega
        clear hbw hBW hnb hszW HNL0 hcm
        generalize flatN (tget (abs fs) bt.pid) = FM at *
        generalize ntCells (ntOf bt) = NC at *
        generalize (tget (abs fs) bt.pid).length = LL at *
        go_wp2_with fail
        go_region_law (first
          | (refine step_append_lies _ (by rfl) (.tmp 51) (.tmp 53) 60 (by rfl) 0 64 j0 _ 4 32 Try.underlying60 hj0 hz0 hz1 hz2 rfl (by decide) (.slice oa LL cp) LL FM (by simp [Act.eval, Act.put]) (by exact HROW.out) ⟨w3.heap.size, 0, none⟩ 1 1 NC (by simp [Act.eval, Act.put]) (by exact HNC.out) (by exact HNEW.out) HONE.out (by decide) (by unfold maxLen; omega) (by omega) (Nat.zero_le _) (w3.heap.size + 1) (by exact HSZ.out) ?_; intro g c w5 hown5 hg5 hat5 hlt5; obtain ⟨f1, f2, w6, f3, f4⟩ := HG.out w5 g c hown5 hg5 hat5; have HF4 := hid f4; clear f4 hown5 hg5 hat5)
          | fail)
        all_goals
          go_wp2_with fail
          go_end0
          exact ⟨rfl, by rw [HF.out]; exact HF4.out⟩
    · have HF : Hid (noteT T bt = T) := by show _ = _; unfold noteT; rw [if_pos (.inr hrt)]
      have hp1 : (bt.pid == 0) = false := by simpa using hp0
      have hr1 : (rightL bt != 0) = true := by simpa using hrt
      have HB0 := hid hb0'
      clear hr hi h hb0 hb0'
      generalize rightL bt = R at *
      go_enter Try.func12, Try.ntmps12
      go_wp2_with fail
      refine HR.out.mono ?_
      rintro e w1 ⟨rfl, hb1⟩
      have HB1 := hid (HB0.out.trans (hb1.mono HB0.out.size))
      clear hb1
      go_wp2_with fail
      exact bodyPost_ret (v := .tuple #[]) (by simp [results, Try.results12, go_sem]) rfl ⟨rfl, by rw [HF.out]; exact TAfter.same HT.out HB1.out⟩
end Go.Proofs.Ytkdbclnnmpnfgaa

