/- turn, with what Cut and Delete do with a producer's notes. -/
import Derived.Test.YtkdbclnnmpnfgaaH10
namespace Go.Proofs.Ytkdbclnnmpnfgaa
open Go.RowKit Go.Maps
set_option maxRecDepth 100000
set_option linter.unusedSimpArgs false
set_option linter.unusedVariables false

theorem apart_mem {fs : FM} (h : fs.Pairwise (fun p q => ∀ k, p.2.sv.ownBlock = some k → q.2.sv.ownBlock ≠ some k)) {p q : Int × NE} (hp : p ∈ fs) (hq : q ∈ fs) (hne : p.1 ≠ q.1) {k : Nat} (hk : p.2.sv.ownBlock = some k) : q.2.sv.ownBlock ≠ some k := by
  obtain ⟨i, hi, e1⟩ := List.getElem_of_mem hp
  obtain ⟨j, hj, e2⟩ := List.getElem_of_mem hq
  rcases Nat.lt_trichotomy i j with h3 | h3 | h3
  · have := List.pairwise_iff_getElem.1 h i j hi hj h3; rw [e1, e2] at this; exact this k hk
  · subst h3; rw [e1] at e2; exact absurd (by rw [e2]) hne
  · have := List.pairwise_iff_getElem.1 h j i hj hi h3; rw [e1, e2] at this; exact fun hc => this k hc hk
theorem apart_fput {fs : FM} (n : Int) (f : NE) (hA : fs.Pairwise (fun p q => ∀ k, p.2.sv.ownBlock = some k → q.2.sv.ownBlock ≠ some k))
    (hap : ∀ p ∈ fs, p.1 ≠ n → ∀ k, f.sv.ownBlock = some k → p.2.sv.ownBlock ≠ some k) : (fput fs n f).Pairwise (fun p q => ∀ k, p.2.sv.ownBlock = some k → q.2.sv.ownBlock ≠ some k) := by
  refine pair_fins (n, f) _ (fun p q h k hk hq => h k hq hk) _ (List.Pairwise.filter _ hA) (fun p hp => ?_)
  have h2 := List.mem_filter.1 hp
  exact hap p h2.1 (by simpa using h2.2)

theorem TurnR.put {f : List Nt → List Nt} {w w2 : World} {fs fc : FM} {bm : Nat} {left : Lit → Bool} (h : TurnR f w w2 fs fc bm left) (hbm : w.heap.size ≤ bm) (hap : fs.Pairwise (fun p q => ∀ k, p.2.sv.ownBlock = some k → q.2.sv.ownBlock ≠ some k))
    (hlt : ∀ p ∈ fs, ∀ k, p.2.sv.ownBlock = some k → k < bm) (hr : (abs fs).Pairwise (fun p q => p.1 < q.1)) {x : Int} (hx : I64 x) {e : NE} (hm : (x, e) ∈ fs) (hne : f e.l ≠ []) {v : Value} (hn : NL w2 v (f e.l))
    (ho : ∀ k, v.ownBlock = some k → e.sv.ownBlock = some k ∨ (bm < k ∧ ∀ p ∈ fc, p.2.sv.ownBlock ≠ some k)) (hsh : ∃ oa n c, v = .slice oa n c) (hlx : left (.int .i64 x) = true) (hlen : fc.length < 100000) :
    ∃ w3, (Instr.mapUpdate 53 (.map (some bm)) (.int .i64 x) v).run Try.prog w2 = .ok () w3 ∧ TurnR f w w3 fs (fput fc x ⟨v, f e.l⟩) bm (fun z => left z && !z.sameKey (.int .i64 x)) ∧ w2.grownBy w3 (some bm) := by
  have hR : Rh v = some (.held v, []) := by obtain ⟨oa, n, c, rfl⟩ := hsh; rfl
  obtain ⟨w3, hrun, hown, ht⟩ := h.map.store law3 Try.underlying53 (by unfold maxLen; omega) (keyOf_int_mk Try.underlying3 (wf_of hx)) hR
  have hg := ht.grown
  have hmb : ∃ es clock, w2.heap[bm]? = some (.map es clock) := by obtain ⟨es, clock, e, _⟩ := h.map; exact ⟨es, clock, e⟩
  obtain ⟨es, clock, hmb⟩ := hmb
  have hkeep : ∀ {u : Value} {l : List Nt}, NL w2 u l → NL w3 u l := fun hN => hN.kept (fun k hk => hg.block k (hN.lt k hk) (fun e => by
    cases e
    obtain ⟨cur, hc⟩ := hN.block bm hk
    rw [hmb] at hc; cases hc))
  refine ⟨w3, hrun, ⟨?_, fun p hp => ?_, ?_, ?_, ?_⟩, hg⟩
  · rw [show (DataW.held v) = (DataW.held (⟨v, f e.l⟩ : NE).sv : DataW Value) from rfl, dmap_put] at hown
    have := tight hown
    rw [dmap_size] at this
    exact this
  · rcases (mem_fput _ _ _ _).1 hp with rfl | ⟨hp, _⟩
    · refine ⟨hkeep hn, fun k hk => ?_⟩
      rcases ho k hk with h1 | h1
      · exact .inl ⟨e, hm, h1⟩
      · exact .inr h1.1
    · exact ⟨hkeep (h.owns p hp).1, (h.owns p hp).2⟩
  · refine apart_fput _ _ h.apart (fun p hp hpn k hk => ?_)
    rcases ho k hk with h1 | h1
    · intro hpk
      rcases (h.owns p hp).2 k hpk with ⟨e', hm', h2⟩ | h2
      · exact apart_mem hap hm hm' (fun e => hpn (by simpa using e.symm)) h1 h2
      · have := hlt _ hm k h1; omega
    · exact h1.2 p hp
  · exact h.agr.step hr (mem_abs.2 ⟨(x, e), hm, rfl⟩) hlx hne v
  · exact h.below.grown hg h.below.size (fun j hj => by cases hj; exact hbm)

/-- The table, with the map that was made. -/
theorem TurnR.tab {f : List Nt → List Nt} {w w2 : World} {S : Nat → Prop} {q b : Nat} {fs fc : FM} {left : Lit → Bool} (h : TurnR f w w2 fs fc w.heap.size left) (hT : TabM w S q b fs) (hl : ∀ kl, left kl = false) (hf : ∀ l, LOk l → LOk (f l) ∧ (f l).length ≤ l.length) :
    TAfter S w (w2.setCell ⟨q, 0, none⟩ (.map (some w.heap.size))) q (turnT f (abs fs)) := by
  have hq := hT.below q hT.self
  have hcells : w2.heap[q]? = some (.cells #[.map (some b)] 55 (0, 0)) := (h.below.block q hq).trans hT.cells
  have hset := set_box (j := 0) (u := .map (some w.heap.size)) hcells
  have hoff : ∀ k, k ≠ q → (w2.setCell ⟨q, 0, none⟩ (.map (some w.heap.size))).heap[k]? = w2.heap[k]? := fun k hk => Below.heap_setCell w2 ⟨q, 0, none⟩ _ k hk
  have hsz : (w2.setCell ⟨q, 0, none⟩ (.map (some w.heap.size))).heap.size = w2.heap.size := by simp [World.setCell]
  have hm := h.map.lt
  have habs : abs fc = turnT f (abs fs) := h.agr.done hl hT.ok.rise (rising_of h.map)
  have hws := h.below.size
  refine ⟨fun k => S k ∨ (w.heap.size ≤ k ∧ k < w2.heap.size), ⟨w.heap.size, fc, ⟨fun k hk => ?_, .inl hT.self, hset, ?_, .inr ⟨Nat.le_refl _, hm⟩, fun p hp => ⟨(h.owns p hp).1.kept (fun k hk => ?_), fun k hk => ?_⟩, h.apart, ?_⟩, habs⟩, fun k hk => ?_, fun k hk => .inl hk, ?_⟩
  · rw [hsz]
    rcases hk with hk | hk
    · have := hT.below k hk; omega
    · exact hk.2
  · exact h.map.setCell (a := ⟨q, 0, none⟩) (by simp; omega) _
  · refine hoff k (fun e => ?_)
    subst e
    obtain ⟨cur, hc⟩ := (h.owns p hp).1.block k hk
    rw [hcells] at hc
    simp only [Option.some.injEq, Obj.cells.injEq] at hc
    exact absurd hc.2.1 (by decide)
  · have h1 := (h.owns p hp).1.lt k hk
    rcases (h.owns p hp).2 k hk with ⟨e, he, h2⟩ | h2
    · exact .inl ((hT.owns _ he).2 k h2)
    · exact .inr ⟨by omega, h1⟩
  · rw [habs]; exact hT.ok.turn f hf
  · rcases hk with hk | hk
    · exact .inl hk
    · exact .inr hk.1
  · exact ⟨h.below.os, h.below.tape, h.below.output, by rw [hsz]; exact hws, fun k hk hS => (hoff k (fun e => by subst e; exact hS hT.self)).trans (h.below.block k hk)⟩
theorem LOk.of_off {l : List Nt} (h : LOk l) {x y : Nt} (hx : x ∈ l) (hy : y ∈ l) (ho : x.off < y.off) : Aft x y := by
  obtain ⟨i, hi, e1⟩ := List.getElem_of_mem hx
  obtain ⟨j, hj, e2⟩ := List.getElem_of_mem hy
  rcases Nat.lt_trichotomy i j with h3 | h3 | h3
  · have := List.pairwise_iff_getElem.1 h.chain i j hi hj h3; rw [e1, e2] at this; exact this
  · subst h3; rw [e1] at e2; rw [e2] at ho; exact absurd ho (by omega)
  · have := (List.pairwise_iff_getElem.1 h.chain j i hj hi h3).1; rw [e1, e2] at this; omega
theorem short_ok (N : Int) (l : List Nt) (h : LOk l) : LOk (shortL N l) ∧ (shortL N l).length ≤ l.length := by
  have hc : LOk (cutN N l) := (cut_ok N l h).1
  have hr : LOk (restN N l) := h.sub List.filter_sublist
  have hk : List.Sublist (keepL (cutN N l)) (cutN N l) := List.filter_sublist.trans (List.drop_sublist _ _)
  refine ⟨⟨fun x hx => ?_, ?_⟩, ?_⟩
  · rcases List.mem_append.1 hx with hx | hx
    · exact hc.all x (hk.subset hx)
    · exact hr.all x hx
  · refine List.pairwise_append.2 ⟨(hc.sub hk).chain, hr.chain, fun x hx y hy => ?_⟩
    have h1 := List.mem_filter.1 (hk.subset hx)
    have h2 := List.mem_filter.1 hy
    simp at h1 h2
    exact h.of_off h1.1 h2.1 (by omega)
  · have h1 := hk.length_le
    have h2 : (cutN N l).length + (restN N l).length = l.length := by
      unfold cutN restN
      have := List.length_eq_countP_add_countP (fun x : Nt => decide (x.off < N)) (l := l)
      rw [List.countP_eq_length_filter, List.countP_eq_length_filter] at this
      rw [this]
      congr 1
      exact congrArg List.length (List.filter_congr (fun x _ => by cases hd : decide (x.off < N) <;> simp))
    unfold shortL
    rw [List.length_append]
    omega


set_option maxHeartbeats 6400000 in
theorem turn38 {w : World} {S : Nat → Prop} {q b : Nat} {fs : FM} (h : TabM w S q b fs) (gb : Nat) (N : Int) (hgb : w.cell? ⟨gb, 0, none⟩ = some (.int .i64 N)) :
    Calls Try.prog 37 #[.pointer (some ⟨q, 0, none⟩), .func (.func 38) #[] #[.pointer (some ⟨gb, 0, none⟩)]] w fun e w' => e = .returned (.tuple #[]) ∧ TAfter S w w' q (turnT (cutN N) (abs fs)) := by
  have c0 := h.c0
  have hqw := h.below q h.self
  have hlen := h.len
  have hbl : b < w.heap.size := h.files.lt
  have hfew : fs.length ≤ 100000 := by have := h.ok.len; unfold abs at this; simpa using this
  have HT := hid h
  have hmk := makeHint
  have hb0 : Below w.heap.size w (w.alloc (.map #[] 0)) := (Below.refl _ _).alloc (Nat.le_refl _) _
  have HM0 := hid (h.under hb0)
  have HA : Hid (∀ (x : Int) (e : NE), (x, e) ∈ fs → (1 ≤ x ∧ x ≤ 1000000000) ∧ e.l ≠ [] ∧ LOk e.l ∧ e.l.length ≤ 100000) := fun x e hm => by
    have h1 := h.ok.each (x, e.l) (mem_abs.2 ⟨(x, e), hm, rfl⟩)
    have h2 := cntT_mem _ _ (mem_abs.2 ⟨(x, e), hm, rfl⟩ : (x, e.l) ∈ abs fs)
    have h3 := h.ok.few
    exact ⟨h1.1, h1.2.1, h1.2.2, by simp only at h2; omega⟩
  have c1 := HM0.out.c0
  clear h hb0
  go_enter Try.func37, Try.ntmps37
  go_wp2_with (first
    | (at_range; refine wpList_range_own _ rfl _ 53 rfl 3 60 law3 Try.underlying53 Rh b fs.length _ rfl HM0.out.files ?_; intro w0 hrg0 hg0 hs0)
    | go_in)
  go_frame
  have hs0' : w0.heap.size = w.heap.size + 2 := by rw [hs0]; simp
  have HW0 : Hid (TurnR (cutN N) w w0 fs [] w.heap.size (Maps.has (dmap fs))) := by
    refine ⟨?_, (fun p hp => by cases hp), List.Pairwise.nil, ?_, ((Below.refl _ _).alloc (Nat.le_refl _) _).grown hg0 (by simp) (fun j hj => by cases hj)⟩
    · exact (World.ownsMap_made w Try.prog 3 Rh).kept hg0 (by simp)
    · intro x
      constructor
      · intro hx; cases hx
      · rintro ⟨_, p, hp, _, _, h4⟩
        obtain ⟨p', hp', rfl⟩ := mem_abs.1 hp
        rw [dmap_has] at h4
        unfold flook at h4
        simp only [Option.isSome_map] at h4
        have := (Option.isSome_eq_false_iff.1 h4)
        simp at this
        exact absurd rfl (this p'.1 p'.2 hp')
  have hz1 : (w.alloc (.map #[] 0)).heap.size = w.heap.size + 1 := by simp
  rw [hz1] at hrg0 ⊢
  have HR0 := hid hrg0
  clear hrg0 hg0 hs0 hz1
  go_loopw [6] (fun s6 wr => ∃ (left : Lit → Bool) (cnt : Nat) (fc : FM), Hid (wr.ranges Try.prog 3 Rh b (w.heap.size + 1) fs.length (dmap fs) left cnt) ∧ fc.length + cnt ≤ fs.length ∧ w.heap.size + 2 ≤ wr.heap.size ∧ Hid (TurnR (cutN N) w wr fs fc w.heap.size left))
    (fun _ wr => wr.rangeLeft b (w.heap.size + 1))
  case atStart =>
    exact ⟨_, _, [], HR0.out, by rw [dmap_size]; simp, by omega, HW0.out⟩
  case round =>
    obtain ⟨left, cnt, fc, HRg, hcnt, hsz, HJ⟩ := hrel
    go_wp2_with (first
      | (at_next; refine wpList_next_ranges _ rfl _ rfl 3 law3 Rh (fun x : Int => Value.int .i64 x) (fun c : Option Addr × Nat × Nat => Value.slice c.1 c.2.1 c.2.2) (fun key kl hkey => by obtain ⟨x, rfl, _⟩ := Maps.keyOf_int_inv Try.underlying3 hkey; exact ⟨_, rfl⟩) (fun v y hv => (Rh_inv hv).1) b (w.heap.size + 1) fs.length (dmap fs) left cnt rfl HRg.out ?_ ?_)
      | go_in)
    · intro hc0 hl0
      have cq : wr.cell? ⟨q, 0, none⟩ = some (.map (some b)) := kept_cell HJ.out.below c0
      have fq : wr.frozen? ⟨q, 0, none⟩ = false := (World.frozen?_of_block (a := ⟨q, 0, none⟩) (HJ.out.below.block q hqw)).trans HT.out.f0
      have HF := hid (HJ.out.tab HT.out hl0 (cut_ok N))
      go_wp2_with fail
      go_end0
      exact ⟨rfl, HF.out⟩
    · intro x oa ln cap kl y1 y2 w1 cnt1 hkey hlx hRy hat hrg1 hlt hg1 hs1 hen
      obtain ⟨x', hx', hkl, hwf⟩ := Maps.keyOf_int_inv Try.underlying3 hkey
      cases hx'
      subst hkl
      have hy := (Rh_inv hRy).2
      simp only [Prod.mk.injEq] at hy
      obtain ⟨e, hm, hev⟩ := of_at x (.slice oa ln cap) (fun zd => (hat zd).trans hy.1)
      obtain ⟨hx1, hne, hok, hl1⟩ := HA.out x e hm
      have HB1 := hid (HJ.out.below.grown hg1 HJ.out.below.size (fun j hj => by cases hj; omega))
      have HN1 := hid ((HT.out.owns _ hm).1.under HB1.out)
      have HRg1 := hid hrg1
      have hblk : ∀ k, k < wr.heap.size → k ≠ w.heap.size + 1 → w1.heap[k]? = wr.heap[k]? := fun k hk hne => hg1.block k hk (by simpa using hne)
      have hit : ∀ cur, wr.heap[w.heap.size + 1]? ≠ some (.cells cur 64 (0, 0)) := fun cur hc => by
        obtain ⟨_, _, _, _, _, _, _, _, _, hi, _⟩ := HRg.out
        rw [hc] at hi; cases hi
      have HBK : Hid (∀ k, k < wr.heap.size → k ≠ w.heap.size + 1 → w1.heap[k]? = wr.heap[k]?) := hblk
      have HIT := hid hit
      have HCall := hid (cut38 HN1.out hok hne hl1 gb N (kept_cell HB1.out hgb))
      rw [hev] at HCall
      have HM := hid hm
      have HEV := hid hev
      have HLX := hid hlx
      have HNE := hid hne
      have HLT := hid hlt
      have HS1 := hid hs1
      clear hat hy hRy hkey hrg1 hg1 hblk hit hm hev hlx hne hlt hs1 hok HA
      go_wp2_with fail
      refine HCall.out.mono ?_
      rintro en w2 ⟨v', rfl, hn2, ho2, ⟨oa2, c2, rfl⟩, hb2⟩
      have HB2 := hid hb2
      have HN2 := hid hn2
      have HO2 := hid ho2
      clear hb2 hn2 ho2
      have HBW : Hid (Below w.heap.size w w2) := HB1.out.trans (HB2.out.mono HB1.out.size)
      have HRg2 : Hid (w2.ranges Try.prog 3 Rh b (w.heap.size + 1) fs.length (dmap fs) (fun z => left z && !z.sameKey (.int .i64 x)) cnt1) := HRg1.out.kept (row := none) ⟨HB2.out.os, HB2.out.tape, HB2.out.output, HB2.out.size, fun k hk _ => HB2.out.block k hk⟩ (by simp) (by simp)
      have hw12 := HB2.out.size
      have hw1s := HS1.out
      have HKK : Hid (∀ k, k < wr.heap.size → k ≠ w.heap.size + 1 → w2.heap[k]? = wr.heap[k]?) := fun k hk hne => (HB2.out.block k (by omega)).trans (HBK.out k hk hne)
      by_cases hz : (cutN N e.l).length = 0
      · have hz' : cutN N e.l = [] := List.eq_nil_of_length_eq_zero hz
        have HJ2 := hid (HJ.out.kept HKK.out HIT.out HBW.out _ (HJ.out.agr.skip HT.out.ok.rise (mem_abs.2 ⟨(x, e), HM.out, rfl⟩) hz'))
        clear hz'
        rw [hz]
        go_wp2_with fail
        go_roundw
        case rel => exact ⟨_, cnt1, fc, HRg2.out, by have := HLT.out; omega, by omega, HJ2.out⟩
        case measure => rw [HRg2.out.left_eq, HRg.out.left_eq]; exact HLT.out
      · have hz' : cutN N e.l ≠ [] := fun e1 => hz (by rw [e1]; rfl)
        have hpos : (0 : Int) < ((cutN N e.l).length : Int) := by omega
        have HJ2 := hid (HJ.out.kept HKK.out HIT.out HBW.out left HJ.out.agr)
        have hw3 := HJ2.out.put (Nat.le_refl _) HT.out.apart (fun p hp k hk => HT.out.below k ((HT.out.owns p hp).2 k hk)) HT.out.ok.rise (x := x) (by unfold I64; omega) HM.out hz' HN2.out (fun k hk => by
          rcases HO2.out k hk with h1 | h1
          · exact .inl (by rw [HEV.out]; exact h1)
          · refine .inr ⟨by omega, fun p hp hpk => ?_⟩
            have := (HJ.out.owns p hp).1.lt k hpk
            omega) ⟨_, _, _, rfl⟩ HLX.out (by have := HLT.out; omega)
        obtain ⟨w3, hrun, hJ3, hg3⟩ := hw3
        have HJ3 := hid hJ3
        have HRg3 := hid (HRg2.out.kept hg3 (by simp; omega) (by simp))
        have hs3 := hg3.size
        clear hJ3 hg3 hz'
        go_wp2_with fail
        go_roundw
        case rel =>
          refine ⟨_, cnt1, _, HRg3.out, ?_, by omega, HJ3.out⟩
          rw [len_fput, fdel_of_ne _ _ (HJ.out.agr.fresh HLX.out)]
          have := HLT.out
          omega
        case measure => rw [HRg3.out.left_eq, HRg.out.left_eq]; exact HLT.out

set_option maxHeartbeats 800000 in
theorem del40 {w : World} {v : Value} {l : List Nt} (h : NL w v l) (hl : LOk l) (hne : l ≠ []) (hlen : l.length ≤ 100000) (gb : Nat) (N : Int) (hg : w.cell? ⟨gb, 0, none⟩ = some (.int .i64 N)) :
    Calls Try.prog 40 #[v, .pointer (some ⟨gb, 0, none⟩)] w fun e w' => Shorter w w' v (shortL N l) e := by
  have HC := hid (short41 h hl hne hlen N)
  obtain ⟨oa, cap, rfl, _⟩ := h.shape
  clear h
  go_enter Try.func40, Try.ntmps40
  go_wp2_with fail
  refine HC.out.mono ?_
  rintro e w1 ⟨v', rfl, h1, h2, ⟨oa2, c2, rfl⟩, h4⟩
  have H1 := hid h1
  have H2 := hid h2
  have H4 := hid h4
  clear h1 h2 h4
  go_wp2_with fail
  go_ret
  exact ⟨_, rfl, H1.out, H2.out, ⟨_, _, rfl⟩, H4.out⟩

set_option maxHeartbeats 6400000 in
theorem turn40 {w : World} {S : Nat → Prop} {q b : Nat} {fs : FM} (h : TabM w S q b fs) (gb : Nat) (N : Int) (hgb : w.cell? ⟨gb, 0, none⟩ = some (.int .i64 N)) :
    Calls Try.prog 37 #[.pointer (some ⟨q, 0, none⟩), .func (.func 40) #[] #[.pointer (some ⟨gb, 0, none⟩)]] w fun e w' => e = .returned (.tuple #[]) ∧ TAfter S w w' q (turnT (shortL N) (abs fs)) := by
  have c0 := h.c0
  have hqw := h.below q h.self
  have hlen := h.len
  have hbl : b < w.heap.size := h.files.lt
  have hfew : fs.length ≤ 100000 := by have := h.ok.len; unfold abs at this; simpa using this
  have HT := hid h
  have hmk := makeHint
  have hb0 : Below w.heap.size w (w.alloc (.map #[] 0)) := (Below.refl _ _).alloc (Nat.le_refl _) _
  have HM0 := hid (h.under hb0)
  have HA : Hid (∀ (x : Int) (e : NE), (x, e) ∈ fs → (1 ≤ x ∧ x ≤ 1000000000) ∧ e.l ≠ [] ∧ LOk e.l ∧ e.l.length ≤ 100000) := fun x e hm => by
    have h1 := h.ok.each (x, e.l) (mem_abs.2 ⟨(x, e), hm, rfl⟩)
    have h2 := cntT_mem _ _ (mem_abs.2 ⟨(x, e), hm, rfl⟩ : (x, e.l) ∈ abs fs)
    have h3 := h.ok.few
    exact ⟨h1.1, h1.2.1, h1.2.2, by simp only at h2; omega⟩
  have c1 := HM0.out.c0
  clear h hb0
  go_enter Try.func37, Try.ntmps37
  go_wp2_with (first
    | (at_range; refine wpList_range_own _ rfl _ 53 rfl 3 60 law3 Try.underlying53 Rh b fs.length _ rfl HM0.out.files ?_; intro w0 hrg0 hg0 hs0)
    | go_in)
  go_frame
  have hs0' : w0.heap.size = w.heap.size + 2 := by rw [hs0]; simp
  have HW0 : Hid (TurnR (shortL N) w w0 fs [] w.heap.size (Maps.has (dmap fs))) := by
    refine ⟨?_, (fun p hp => by cases hp), List.Pairwise.nil, ?_, ((Below.refl _ _).alloc (Nat.le_refl _) _).grown hg0 (by simp) (fun j hj => by cases hj)⟩
    · exact (World.ownsMap_made w Try.prog 3 Rh).kept hg0 (by simp)
    · intro x
      constructor
      · intro hx; cases hx
      · rintro ⟨_, p, hp, _, _, h4⟩
        obtain ⟨p', hp', rfl⟩ := mem_abs.1 hp
        rw [dmap_has] at h4
        unfold flook at h4
        simp only [Option.isSome_map] at h4
        have := (Option.isSome_eq_false_iff.1 h4)
        simp at this
        exact absurd rfl (this p'.1 p'.2 hp')
  have hz1 : (w.alloc (.map #[] 0)).heap.size = w.heap.size + 1 := by simp
  rw [hz1] at hrg0 ⊢
  have HR0 := hid hrg0
  clear hrg0 hg0 hs0 hz1
  go_loopw [6] (fun s6 wr => ∃ (left : Lit → Bool) (cnt : Nat) (fc : FM), Hid (wr.ranges Try.prog 3 Rh b (w.heap.size + 1) fs.length (dmap fs) left cnt) ∧ fc.length + cnt ≤ fs.length ∧ w.heap.size + 2 ≤ wr.heap.size ∧ Hid (TurnR (shortL N) w wr fs fc w.heap.size left))
    (fun _ wr => wr.rangeLeft b (w.heap.size + 1))
  case atStart =>
    exact ⟨_, _, [], HR0.out, by rw [dmap_size]; simp, by omega, HW0.out⟩
  case round =>
    obtain ⟨left, cnt, fc, HRg, hcnt, hsz, HJ⟩ := hrel
    go_wp2_with (first
      | (at_next; refine wpList_next_ranges _ rfl _ rfl 3 law3 Rh (fun x : Int => Value.int .i64 x) (fun c : Option Addr × Nat × Nat => Value.slice c.1 c.2.1 c.2.2) (fun key kl hkey => by obtain ⟨x, rfl, _⟩ := Maps.keyOf_int_inv Try.underlying3 hkey; exact ⟨_, rfl⟩) (fun v y hv => (Rh_inv hv).1) b (w.heap.size + 1) fs.length (dmap fs) left cnt rfl HRg.out ?_ ?_)
      | go_in)
    · intro hc0 hl0
      have cq : wr.cell? ⟨q, 0, none⟩ = some (.map (some b)) := kept_cell HJ.out.below c0
      have fq : wr.frozen? ⟨q, 0, none⟩ = false := (World.frozen?_of_block (a := ⟨q, 0, none⟩) (HJ.out.below.block q hqw)).trans HT.out.f0
      have HF := hid (HJ.out.tab HT.out hl0 (short_ok N))
      go_wp2_with fail
      go_end0
      exact ⟨rfl, HF.out⟩
    · intro x oa ln cap kl y1 y2 w1 cnt1 hkey hlx hRy hat hrg1 hlt hg1 hs1 hen
      obtain ⟨x', hx', hkl, hwf⟩ := Maps.keyOf_int_inv Try.underlying3 hkey
      cases hx'
      subst hkl
      have hy := (Rh_inv hRy).2
      simp only [Prod.mk.injEq] at hy
      obtain ⟨e, hm, hev⟩ := of_at x (.slice oa ln cap) (fun zd => (hat zd).trans hy.1)
      obtain ⟨hx1, hne, hok, hl1⟩ := HA.out x e hm
      have HB1 := hid (HJ.out.below.grown hg1 HJ.out.below.size (fun j hj => by cases hj; omega))
      have HN1 := hid ((HT.out.owns _ hm).1.under HB1.out)
      have HRg1 := hid hrg1
      have hblk : ∀ k, k < wr.heap.size → k ≠ w.heap.size + 1 → w1.heap[k]? = wr.heap[k]? := fun k hk hne => hg1.block k hk (by simpa using hne)
      have hit : ∀ cur, wr.heap[w.heap.size + 1]? ≠ some (.cells cur 64 (0, 0)) := fun cur hc => by
        obtain ⟨_, _, _, _, _, _, _, _, _, hi, _⟩ := HRg.out
        rw [hc] at hi; cases hi
      have HBK : Hid (∀ k, k < wr.heap.size → k ≠ w.heap.size + 1 → w1.heap[k]? = wr.heap[k]?) := hblk
      have HIT := hid hit
      have HCall := hid (del40 HN1.out hok hne hl1 gb N (kept_cell HB1.out hgb))
      rw [hev] at HCall
      have HM := hid hm
      have HEV := hid hev
      have HLX := hid hlx
      have HNE := hid hne
      have HLT := hid hlt
      have HS1 := hid hs1
      clear hat hy hRy hkey hrg1 hg1 hblk hit hm hev hlx hne hlt hs1 hok HA
      go_wp2_with fail
      refine HCall.out.mono ?_
      rintro en w2 ⟨v', rfl, hn2, ho2, ⟨oa2, c2, rfl⟩, hb2⟩
      have HB2 := hid hb2
      have HN2 := hid hn2
      have HO2 := hid ho2
      clear hb2 hn2 ho2
      have HBW : Hid (Below w.heap.size w w2) := HB1.out.trans (HB2.out.mono HB1.out.size)
      have HRg2 : Hid (w2.ranges Try.prog 3 Rh b (w.heap.size + 1) fs.length (dmap fs) (fun z => left z && !z.sameKey (.int .i64 x)) cnt1) := HRg1.out.kept (row := none) ⟨HB2.out.os, HB2.out.tape, HB2.out.output, HB2.out.size, fun k hk _ => HB2.out.block k hk⟩ (by simp) (by simp)
      have hw12 := HB2.out.size
      have hw1s := HS1.out
      have HKK : Hid (∀ k, k < wr.heap.size → k ≠ w.heap.size + 1 → w2.heap[k]? = wr.heap[k]?) := fun k hk hne => (HB2.out.block k (by omega)).trans (HBK.out k hk hne)
      by_cases hz : (shortL N e.l).length = 0
      · have hz' : shortL N e.l = [] := List.eq_nil_of_length_eq_zero hz
        have HJ2 := hid (HJ.out.kept HKK.out HIT.out HBW.out _ (HJ.out.agr.skip HT.out.ok.rise (mem_abs.2 ⟨(x, e), HM.out, rfl⟩) hz'))
        clear hz'
        rw [hz]
        go_wp2_with fail
        go_roundw
        case rel => exact ⟨_, cnt1, fc, HRg2.out, by have := HLT.out; omega, by omega, HJ2.out⟩
        case measure => rw [HRg2.out.left_eq, HRg.out.left_eq]; exact HLT.out
      · have hz' : shortL N e.l ≠ [] := fun e1 => hz (by rw [e1]; rfl)
        have hpos : (0 : Int) < ((shortL N e.l).length : Int) := by omega
        have HJ2 := hid (HJ.out.kept HKK.out HIT.out HBW.out left HJ.out.agr)
        have hw3 := HJ2.out.put (Nat.le_refl _) HT.out.apart (fun p hp k hk => HT.out.below k ((HT.out.owns p hp).2 k hk)) HT.out.ok.rise (x := x) (by unfold I64; omega) HM.out hz' HN2.out (fun k hk => by
          rcases HO2.out k hk with h1 | h1
          · exact .inl (by rw [HEV.out]; exact h1)
          · refine .inr ⟨by omega, fun p hp hpk => ?_⟩
            have := (HJ.out.owns p hp).1.lt k hpk
            omega) ⟨_, _, _, rfl⟩ HLX.out (by have := HLT.out; omega)
        obtain ⟨w3, hrun, hJ3, hg3⟩ := hw3
        have HJ3 := hid hJ3
        have HRg3 := hid (HRg2.out.kept hg3 (by simp; omega) (by simp))
        have hs3 := hg3.size
        clear hJ3 hg3 hz'
        go_wp2_with fail
        go_roundw
        case rel =>
          refine ⟨_, cnt1, _, HRg3.out, ?_, by omega, HJ3.out⟩
          rw [len_fput, fdel_of_ne _ _ (HJ.out.agr.fresh HLX.out)]
          have := HLT.out
          omega
        case measure => rw [HRg3.out.left_eq, HRg.out.left_eq]; exact HLT.out

theorem TAfter.under {S : Nat → Prop} {w w1 w2 : World} {q : Nat} {T : Tb} (hb : Below w.heap.size w w1) (h : TAfter S w1 w2 q T) : TAfter S w w2 q T := by
  obtain ⟨S', h1, h2, h3, h4⟩ := h
  exact ⟨S', h1, fun k hk => (h2 k hk).imp id (fun h => Nat.le_trans hb.size h), h3, (Keeps.of_below hb).trans h4 (fun x hx => .inl hx)⟩

set_option maxHeartbeats 800000 in
theorem cut_any {w : World} {S : Nat → Prop} {q : Nat} {T : Tb} (h : Tab w S q T) (N : Int) :
    Calls Try.prog 16 #[.pointer (some ⟨q, 0, none⟩), .int .i64 N] w fun e w' => e = .returned (.tuple #[]) ∧ TAfter S w w' q (turnT (cutN N) T) := by
  obtain ⟨b, fs, h, rfl⟩ := h
  have hb : Below w.heap.size w (w.alloc (.cells #[.int .i64 N] 3)) := (Below.refl _ _).alloc (Nat.le_refl _) _
  have HC := hid (turn38 (h.under hb) w.heap.size N (cell_blk (heap_alloc_new w _) 0 _ rfl))
  have HB := hid hb
  clear h hb
  go_enter Try.func16, Try.ntmps16
  go_wp2_with fail
  refine HC.out.mono ?_
  rintro e w1 ⟨rfl, h1⟩
  have H1 := hid h1
  clear h1
  go_wp2_with fail
  go_end0
  exact ⟨rfl, H1.out.under HB.out⟩
set_option maxHeartbeats 800000 in
theorem delete_any {w : World} {S : Nat → Prop} {q : Nat} {T : Tb} (h : Tab w S q T) (N : Int) :
    Calls Try.prog 18 #[.pointer (some ⟨q, 0, none⟩), .int .i64 N] w fun e w' => e = .returned (.tuple #[]) ∧ TAfter S w w' q (turnT (shortL N) T) := by
  obtain ⟨b, fs, h, rfl⟩ := h
  have hb : Below w.heap.size w (w.alloc (.cells #[.int .i64 N] 3)) := (Below.refl _ _).alloc (Nat.le_refl _) _
  have HC := hid (turn40 (h.under hb) w.heap.size N (cell_blk (heap_alloc_new w _) 0 _ rfl))
  have HB := hid hb
  clear h hb
  go_enter Try.func18, Try.ntmps18
  go_wp2_with fail
  refine HC.out.mono ?_
  rintro e w1 ⟨rfl, h1⟩
  have H1 := hid h1
  clear h1
  go_wp2_with fail
  go_end0
  exact ⟨rfl, H1.out.under HB.out⟩
theorem tab_made (w : World) : Tab ((w.alloc (.map #[] 0)).alloc (.cells #[.map (some w.heap.size)] 55)) (fun k => w.heap.size ≤ k ∧ k < w.heap.size + 2) (w.heap.size + 1) [] := by
  obtain ⟨h1, h2, h3, h4⟩ := world2 w (.map #[] 0) (.cells #[.map (some w.heap.size)] 55)
  refine ⟨w.heap.size, [], ⟨fun k hk => by omega, ⟨by omega, by omega⟩, h2, ?_, ⟨by omega, by omega⟩, (fun p hp => by cases hp), List.Pairwise.nil, TOk.nil⟩, rfl⟩
  exact (World.ownsMap_made w Try.prog 3 Rh).alloc _
set_option maxHeartbeats 400000 in
theorem new_any (w : World) : Calls Try.prog 8 #[] w fun e w' => ∃ (q : Nat) (S : Nat → Prop), e = .returned (.pointer (some ⟨q, 0, none⟩)) ∧ Tab w' S q [] ∧ (∀ k, S k → w.heap.size ≤ k) ∧ Below w.heap.size w w' := by
  have HT := hid (tab_made w)
  have HB := hid (world2 w (.map #[] 0) (.cells #[.map (some w.heap.size)] 55)).2.2.1
  have hmm := @run_makeMap Try.prog
  go_enter Try.func8, Try.ntmps8
  go_wp2_with fail
  go_ret
  exact ⟨w.heap.size + 1, _, rfl, HT.out, (fun k hk => hk.1), HB.out⟩
end Go.Proofs.Ytkdbclnnmpnfgaa

