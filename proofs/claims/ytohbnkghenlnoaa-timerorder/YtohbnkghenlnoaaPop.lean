/- queue.Pop. -/
import Derived.Test.YtohbnkghenlnoaaDown
namespace Go.Proofs.Ytohbnkghenlnoaa
open Go.RowKit Go.Maps
set_option maxRecDepth 100000
set_option linter.unusedSimpArgs false
set_option linter.unusedVariables false

theorem mem_take_g {l : List Tm} {n : Nat} {x : Tm} (h : x ∈ l.take n) : x ∈ l := List.mem_of_mem_take h
theorem g_take {l : List Tm} {n i : Nat} (h : i < n) : g (l.take n) i = g l i := by
  simp [g, List.getD_eq_getElem?_getD, List.getElem?_take, h]

theorem Agree.pop {ps : List (Int × Int)} {l : List Tm} (h : Agree ps l) {n : Nat} (hn : n + 1 = l.length) : Agree (pdel ps (g l n).key) (l.take n) := by
  have hl : (l.take n).length = n := by simp; omega
  have h1 := len_pdel ps h.apart (h.here n (by omega))
  refine ⟨by rw [hl]; have := h.len; omega, apart_pdel _ h.apart, fun i hi => ?_, fun p hp => ?_⟩
  · rw [hl] at hi
    rw [g_take hi, mem_pdel]
    exact ⟨h.here i (by omega), fun e => by have := h.inj (by omega) (by omega) e; omega⟩
  · rw [mem_pdel] at hp
    obtain ⟨i, hi, rfl⟩ := h.there p hp.1
    have hin : i ≠ n := fun e => hp.2 (by rw [e])
    exact ⟨i, by rw [hl]; omega, by rw [g_take (by omega)]⟩

def tval (x : Tm) : Value := .agg #[.int .i64 x.key, .int .i64 x.tick]

set_option maxHeartbeats 1600000 in
theorem pop_any {w : World} {S : Nat → Prop} {a : Nat} {v : Value} {mo : Option Nat} {l : List Tm} {ps : List (Int × Int)} (h : QM w S a v mo l ps) (n : Nat) (hn : n + 1 = l.length) :
    Calls Try.prog 48 #[.pointer (some ⟨a, 0, none⟩)] w fun e w' => e = .returned (.iface 54 (tval (g l n))) ∧ ∃ v' ps', QM w' S a v' mo (l.take n) ps' ∧ Keeps S w w' := by
  obtain ⟨oa, cap, rfl, hcap, hcm, hoa, _⟩ := h.shape
  obtain ⟨b, rfl, hSb, hba⟩ := hoa (by omega)
  obtain ⟨m, rfl⟩ := h.some_map (by omega)
  have hal := h.below a h.self
  have hbl := h.below b hSb
  have hml := h.below m (h.mapS m rfl)
  have c0 := h.c0
  have c1 := h.c1
  have f0 := h.f0
  obtain ⟨i0, i1⟩ := h.at_ n (by omega)
  have hbh : ∃ cur, w.heap[b]? = some (.cells cur 54) := by
    obtain ⟨_, h0 | ⟨b', cap', cur, e, _, hg, _⟩⟩ := h.row
    · cases h0.1
    · have : b' = b := by simp only [Value.slice.injEq, Option.some.injEq, Addr.mk.injEq] at e; exact e.1.1.symm
      subst this; exact ⟨cur, hg⟩
  obtain ⟨cur, hbh⟩ := hbh
  have hmh : ∃ es clock, w.heap[m]? = some (.map es clock) := by obtain ⟨es, clock, e, _⟩ := h.map; exact ⟨es, clock, e⟩
  obtain ⟨es, clock, hmh⟩ := hmh
  have hmb : m ≠ b := fun e => by subst e; rw [hmh] at hbh; cases hbh
  have hma : m ≠ a := fun e => by subst e; have := h.cells; rw [hmh] at this; cases this
  obtain ⟨W, hW⟩ : ∃ W, W = (w.setCell ⟨a, 0, none⟩ (.slice (some ⟨b, 0, none⟩) n cap)).alloc (.cells #[.int .i64 (g l n).key, .int .i64 (g l n).tick] 54) := ⟨_, rfl⟩
  have hsz : (w.setCell ⟨a, 0, none⟩ (.slice (some ⟨b, 0, none⟩) n cap)).heap.size = w.heap.size := by simp [World.setCell]
  have hblk : ∀ k, k < w.heap.size → k ≠ a → W.heap[k]? = w.heap[k]? := fun k hk hne => by
    rw [hW, Below.heap_alloc _ _ k (by rw [hsz]; exact hk), Below.heap_setCell _ _ _ k hne]
  have hWa : W.heap[a]? = some (.cells #[.slice (some ⟨b, 0, none⟩) n cap, .map (some m)] 51 (0, 0)) := by
    rw [hW, Below.heap_alloc _ _ a (by rw [hsz]; exact hal)]
    simp [World.setCell, Array.getElem?_modify, h.cells]
  have hWs : W.heap.size = w.heap.size + 1 := by rw [hW]; simp [hsz]
  have d1 : W.cell? ⟨a, 1, none⟩ = some (.map (some m)) := by simp [World.cell?, hWa]
  have k0 : W.cell? ⟨w.heap.size, 0, none⟩ = some (.int .i64 (g l n).key) := by rw [hW]; exact cell_new hsz.symm rfl
  have k1 : W.cell? ⟨w.heap.size, 1, none⟩ = some (.int .i64 (g l n).tick) := by rw [hW]; exact cell_new hsz.symm rfl
  have hM : W.ownsMap Try.prog 3 (plainElem Try.prog 3) m ps.length (pmap ps) := MapAt.kept (mo := some m) h.map (fun b' e => by cases e; exact hblk m hml hma)
  have hM' : ∀ q, (W.drewN q).ownsMap Try.prog 3 (plainElem Try.prog 3) m ps.length (pmap ps) := fun q => MapAt.kept (w := W) (mo := some m) hM (fun b' e => rfl)
  have hkey := keyOf_int_mk Try.underlying3 (wf_of (h.rng _ (g_mem (show n < l.length by omega))))
  have hag := h.agree.pop hn
  have hlt : (l.take n).length = n := by simp; omega
  have HF : Hid (∀ (w2 : World) (q : Nat), w2.ownsMap Try.prog 3 (plainElem Try.prog 3) m ps.length ((pmap ps).del (.int .i64 (g l n).key)) → (W.drewN q).mapTurned w2 m →
      w2.cell? ⟨w.heap.size, 0, none⟩ = some (.int .i64 (g l n).key) ∧ w2.cell? ⟨w.heap.size, 1, none⟩ = some (.int .i64 (g l n).tick) ∧
      ∃ v' ps', QM w2 S a v' (some m) (l.take n) ps' ∧ Keeps S w w2) := fun w2 q hown ht => by
    have hg := ht.grown
    have hb2 : ∀ k, k < w.heap.size + 1 → k ≠ m → w2.heap[k]? = W.heap[k]? := fun k hk hne => hg.block k (by show k < W.heap.size; omega) (by simpa using hne)
    have hz : w.heap.size + 1 ≤ w2.heap.size := by have := hg.size; rw [← hWs]; exact this
    refine ⟨(World.cell?_of_block (a := ⟨w.heap.size, 0, none⟩) (hb2 w.heap.size (by omega) (by omega))).trans k0, (World.cell?_of_block (a := ⟨w.heap.size, 1, none⟩) (hb2 w.heap.size (by omega) (by omega))).trans k1, .slice (some ⟨b, 0, none⟩) n cap, pdel ps (g l n).key, ?_, ?_⟩
    · refine ⟨fun k hk => by have := h.below k hk; omega, h.self, (hb2 a (by omega) hma.symm).trans hWa, ?_, h.rowS, ?_, h.mapS, hag, by rw [hlt]; have := h.few; omega, fun x hx => h.rng x (mem_take_g hx)⟩
      · have hr := h.row
        refine ⟨flat_length _, .inr ?_⟩
        rcases hr.2 with h0 | ⟨b', cap', cur', e, hb0, hg0, h1, h2, h3, h4⟩
        · cases h0.1
        · simp only [Value.slice.injEq, Option.some.injEq, Addr.mk.injEq] at e
          obtain ⟨⟨e1, _, _⟩, _, e2⟩ := e
          subst e1; subst e2
          refine ⟨b, cap, cur', by rw [hlt], hb0, (hb2 b (by omega) hmb.symm).trans ((hblk b hbl hba).trans hg0), by rw [hlt]; omega, h2, h3, ?_⟩
          rw [hlt, ← flat_take, ← h4, List.take_take]
          congr 1
          omega
      · rw [pmap_del] at hown
        have := tight hown
        rw [pmap_size] at this
        exact this
    · exact ⟨hg.os.trans (by show W.os = _; rw [hW]; rfl), hg.tape.trans (by show W.tape = _; rw [hW]; rfl), hg.output.trans (by show W.output = _; rw [hW]; rfl), by omega,
        fun k hk hS => (hb2 k (by omega) (fun e => hS (e ▸ h.mapS m rfl))).trans (hblk k hk (fun e => hS (e ▸ h.self)))⟩
  have hfew := h.few
  have hlz : ((l.length : Int) - 1) = (n : Int) := by omega
  have hnz : (n : Int) < (l.length : Int) := by omega
  have hnc : (n : Int) ≤ (cap : Int) := by omega
  have HW := hid hW
  have HM := hid hM'
  clear h hag hM hM' hbh hmh hblk hWa hW hoa
  generalize g l n = x at *
  go_enter Try.func48, Try.ntmps48
  go_wp2
  rw [← HW.out]
  refine region_tail 6 (by kernel_rfl) (by kernel_rfl) ?_
  simp only [List.take_succ_cons, List.take_zero, List.drop_succ_cons, List.drop_zero]
  repeat (go_big_quiet_step (fail))
  refine wpQuiet_nil ?_
  rintro _ ⟨nq, rfl⟩
  go_wp2_with (at_delete; refine wpList_delete_own _ rfl _ _ 47 3 rfl 3 law3 Try.underlying47 _ m ps.length (pmap ps) rfl (HM.out _) _ _ rfl hkey ?_; intro w2 hown2 hturn2; obtain ⟨k0', k1', hfin⟩ := HF.out w2 _ hown2 hturn2; have HFin := hid hfin; clear hfin hown2 hturn2)
  go_ret
  exact ⟨rfl, HFin.out⟩

end Go.Proofs.Ytohbnkghenlnoaa
