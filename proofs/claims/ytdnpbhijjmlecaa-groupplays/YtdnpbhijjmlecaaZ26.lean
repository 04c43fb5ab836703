/- The document's Join on the groups of a call's own. -/
import Derived.Test.YtdnpbhijjmlecaaZ18
import Derived.Test.YtdnpbhijjmlecaaZ19
import Derived.Test.YtdnpbhijjmlecaaZ20
import Derived.Test.YtdnpbhijjmlecaaZ21
import Derived.Test.YtdnpbhijjmlecaaZ22
import Derived.Test.YtdnpbhijjmlecaaZ23
import Derived.Test.YtdnpbhijjmlecaaZ25
import Derived.Shelf.SlIter.Nil
import Derived.Shelf.SortM.Plain
import Derived.Shelf.SortM.SortNone
import Derived.Shelf.SlGeneric
import Derived.Ground.GgzProg
import Derived.Ground.SlgmProg
import Derived.Test.YtdnpbhijjmlecaaProg
import Derived.Test.YtdnpbhijjmlecaaZ7
import Derived.Test.YtdnpbhijjmlecaaZ6
namespace Go.Proofs.Ytdnpbhijjmlecaa
open Go.RowKit Go.Maps
set_option linter.unusedSimpArgs false
set_option linter.unusedVariables false

theorem join_no {S : Gs} {m : Rc} {n : Int} (h : joinE S.gs m = n) (hn : n ≠ 0) : joinI S m = (S, errT n) := by
  unfold joinI
  rw [h, if_pos hn]
theorem join_yes {S : Gs} {m : Rc} (h : joinE S.gs m = 0) : joinI S m = ({ S with gs := putG S.gs m.key (joinG (foundG S.gs m.key) m) }, joinT (foundG S.gs m.key) m) := by
  unfold joinI
  rw [h, if_neg (by simp)]
theorem kjoin25 {Z : Nat → Prop} {w : World} {r N M : Nat} {vl : Value} {es : List Ent} {ep : Int} {S : Gs} (h : DM Z w r vl es ep) (hr : RelS N es ep S) (ho : GsOk M S) (hM : M ≤ 1000000) (hev : ∀ p ∈ S.gs, p.2.ever < 1000000) (m : Rc) (la : Option Addr) (lc : Nat) (hl : IL w (.slice la m.list.length lc) m.list) (hnm : m.name.size ≤ maxLen) (hlz : In (fun k => ¬ Z k) (.slice la m.list.length lc) m.list) :
    Calls Try.prog 25 #[.pointer (some ⟨r, 0, none⟩), recV m (.slice la m.list.length lc)] w fun e w' => AppP Z w r N (joinI S m).1 (joinI S m).2 e w' := by
  have hlen : es.length ≤ 1000 := by have := hr.len; have := ho.few; omega
  by_cases hbad : nameB m.name = false ∨ m.a < 0 ∨ riseB 0 m.list = false
  · rw [join_no (n := 1) (by unfold joinE; rw [if_pos hbad]) (by simp)]
    exact (rj_bad h.c hlen m la lc hl hnm hbad).mono fun e w' ⟨h1, h2⟩ => appP_same h hr h1 h2
  have hn1 : nameB m.name = true := by cases hb : nameB m.name with
    | true => rfl
    | false => exact absurd (.inl hb) hbad
  have hr1 : riseB 0 m.list = true := by cases hb : riseB 0 m.list with
    | true => rfl
    | false => exact absurd (.inr (.inr hb)) hbad
  have ha0 : 0 ≤ m.a := by
    by_cases hb : m.a < 0
    · exact absurd (.inr (.inl hb)) hbad
    · omega
  have hzero : GrOk M Gr.zero := foundOk (S := ⟨[], 0⟩) ⟨List.Pairwise.nil, by simp, fun p hp => (by cases hp), by show I64 0; unfold I64; omega⟩ m.key
  rcases rel_find hr m.name with ⟨hf, hg⟩ | ⟨i, hi, hi', hf, hg, hnm2, hen⟩
  · have hgk : getG S.gs m.key = none := hg
    have hfg : foundG S.gs m.key = Gr.zero := by unfold foundG; rw [hgk]; rfl
    by_cases hap : 0 < m.a
    · rw [join_no (n := 8) (by unfold joinE; rw [if_neg hbad, hgk]; simp [hap]) (by simp)]
      exact (rj_none h.c hlen m la lc hl hnm hn1 hr1 hap hf).mono fun e w' ⟨h1, h2⟩ => appP_same h hr h1 h2
    have hz : m.a = 0 := by omega
    by_cases h8 : 8 ≤ es.length
    · rw [join_no (n := 3) (by unfold joinE; rw [if_neg hbad, hgk, if_neg (by omega), if_neg (by omega), if_pos (.inl ⟨rfl, by rw [← hr.len]; exact h8⟩)]) (by simp)]
      exact (rj_many0 h.c hlen m la lc hl hnm hn1 hr1 hz hf h8).mono fun e w' ⟨h1, h2⟩ => appP_same h hr h1 h2
    have hj : joinE S.gs m = 0 := by
      unfold joinE
      rw [if_neg hbad, hgk, hfg, if_neg (by omega), if_neg (by omega), if_neg]
      rintro (⟨_, h⟩ | ⟨_, h⟩ | h)
      · rw [← hr.len] at h; omega
      · simp [Gr.zero] at h
      · simp [Gr.zero] at h
    rw [join_yes hj, hfg]
    have hno : ∀ e ∈ es, e.n ≠ m.name := fun e he e2 => by
      unfold findX at hf
      have := List.find?_eq_none.1 hf e he
      simp [e2] at this
    have hrl : r < w.heap.size := h.zlt r h.rz
    refine (rj_new h.c hlen m la lc hl hnm hn1 hr1 hz hf (by omega) (hlz.mono fun k hk e => hk (by rw [e]; exact h.rz))).mono ?_
    rintro e w' ⟨b, vl', vm', vp', k1, k2, k3, k4, k5, k6, k7, k8, k9⟩
    have hnil : (Value.slice none 0 0).ownBlock = none := rfl
    have hI := h.insert (placeE es m.name) k1 k2 ⟨b, m.name, vm', vp', .slice none 0 0, .slice none 0 0, joinDD Dg.zero m⟩ k3 k4 (fun k hk => by
      rcases hk with hk | hk | hk | hk
      · rw [show k = b from hk]; exact k5
      · exact (k6 k hk).1
      · cases hk
      · cases hk) (fun k hk => ⟨(k7 k hk).1, fun ho => by
      rcases ho with ho | ho | ho | ho
      · exact (k7 k hk).2.1 ho
      · exact (k7 k hk).2.2 ho
      · cases ho
      · cases ho⟩) ⟨fun e => (k6 b e).2 rfl, by simp [hnil], by simp [hnil], fun k _ => by simp [hnil], fun k _ => by simp [hnil], fun k e => by cases e⟩ (by
      have hd : (joinDD Dg.zero m).parts = m.list := joinDD_parts _ _
      show In _ vp' (joinDD Dg.zero m).parts
      rw [hd]
      intro hne b' off n' c' e
      have := k8 hne b' off n' c' e
      refine ⟨this.1, ?_, fun ho => ?_, this.2.2.2⟩
      · have := k4.parts.old (by rw [hd]; exact hne) b' off n' c' e
        exact this
      · rcases ho with ho | ho | ho | ho
        · exact this.2.1 ho
        · exact this.2.2.1 ho
        · cases ho
        · cases ho)
    refine ⟨_, vl', _, ep, hI, ?_, fun k hk => hk.imp id (fun h => h.1), k1.mono fun k e => by rw [e]; exact h.rz, ?_⟩
    · have hp : putG S.gs m.key (joinG Gr.zero m) = insG (m.name.data.toList, joinG Gr.zero m) S.gs := by unfold putG; rw [hgk]; rfl
      show RelS N _ ep { S with gs := putG S.gs m.key (joinG Gr.zero m) }
      rw [hp]
      exact rel_insert hr (Nat.le_refl N) m.name hno _ rfl _ (rel_join (rel_zero N) hzero m)
    · have ht : joinT Gr.zero m = ⟨0, 1, 1, 0, partsD [1] m.list 1⟩ := by
        have hrj := rel_join (rel_zero N) hzero m
        have hh := join_has (x := Gr.zero) (m := m) hzero (fun hp => by omega) ha0
        have hd : joinD Gr.zero m = 1 := by unfold joinD; rw [if_pos hz]; rfl
        rw [hd] at hh
        have := rel_parts hrj 1 hh
        unfold joinT
        rw [hd, ← this, joinDD_parts, joinDD_mem0 hz]
        rfl
      rw [ht]
      exact k9
  · have hgk : getG S.gs m.key = some S.gs[i].2 := hg
    have hfg : foundG S.gs m.key = S.gs[i].2 := by unfold foundG; rw [hgk]; rfl
    have hrel := (hr.each i hi hi').2
    have hok : GrOk M S.gs[i].2 := (ho.each _ (List.getElem_mem hi')).1
    have hmem : es[i] ∈ es := List.getElem_mem hi
    have hh := rel_has (M := M) hrel m.a
    have hself := h.self _ hmem
    have hps := h.ps _ hmem
    have hlt : ∀ k, OwnE es[i] k → k < w.heap.size := fun k hk' => OwnE.lt (h.c.each _ hmem) hk'
    have hz : ∀ k, OwnE es[i] k → Z k := fun k hk' => (h.own _ hmem k hk').1
    have hevx : S.gs[i].2.ever < 1000000 := hev _ (List.getElem_mem hi')
    have hevd : 0 ≤ es[i].d.ever ∧ es[i].d.ever < 1000000 := by rw [hrel.ever]; exact ⟨hok.ever.1, hevx⟩
    have hgend : 0 ≤ es[i].d.gen ∧ es[i].d.gen ≤ 1000000 := by rw [hrel.gen]; have := hok.gen; omega
    have hmemlen : es[i].d.mem.length = S.gs[i].2.mem.length := by rw [hrel.mem]; simp [idsL]
    have hput : ∀ y, putG S.gs m.key y = setG S.gs S.gs[i].1 y := fun y => by
      unfold putG
      rw [hgk, hnm2]; rfl
    have hdone : ∀ (vm' vp' : Value) (w' : World) (e : Ending) (t : Td), Keeps (fun k => k = es[i].b ∨ es[i].vm.ownBlock = some k) w w' → DgR w' es[i].b es[i].n vm' vp' es[i].vo es[i].vn (joinDD es[i].d m) → (∀ k, vm'.ownBlock = some k → es[i].vm.ownBlock = some k ∨ w.heap.size ≤ k) → In (fun k => w.heap.size ≤ k ∧ vm'.ownBlock ≠ some k) vp' m.list → ToldP (fun b => w.heap.size ≤ b) w' t e → AppP Z w r N { S with gs := putG S.gs m.key (joinG S.gs[i].2 m) } t e w' := fun vm' vp' w' e t k1 k2 k3 k4 k5 => by
      have hd : (joinDD es[i].d m).parts = m.list := joinDD_parts _ _
      have hbl : es[i].b < w.heap.size := hlt _ (.inl rfl)
      have hT := h.turn i hi (k1.mono fun k e => e.elim .inl (fun e => .inr (.inl e))) ⟨es[i].b, es[i].n, vm', vp', es[i].vo, es[i].vn, joinDD es[i].d m⟩ rfl k2 (fun k hk' => by
        rcases hk' with h1 | h1 | h1 | h1
        · exact .inl (.inl h1)
        · rcases k3 k h1 with h2 | h2
          · exact .inl (.inr (.inl h2))
          · exact .inr ⟨h2, row_lt k2.mem h1⟩
        · exact .inl (.inr (.inr (.inl h1)))
        · exact .inl (.inr (.inr (.inr h1)))) ⟨fun e => by
          rcases k3 _ e with h2 | h2
          · exact hself.m h2
          · have h3 : w.heap.size ≤ es[i].b := h2
            omega, hself.o, hself.n, fun k e e2 => by
          rcases k3 _ e with h2 | h2
          · exact hself.mo k h2 e2
          · have := hlt k (.inr (.inr (.inl e2))); omega, fun k e e2 => by
          rcases k3 _ e with h2 | h2
          · exact hself.mn k h2 e2
          · have := hlt k (.inr (.inr (.inr e2))); omega, hself.on⟩ (.inl (by
          show In _ vp' (joinDD es[i].d m).parts
          rw [hd]
          intro hne b' off n' c' e
          have h4 := k4 hne b' off n' c' e
          refine ⟨h4.1, k2.parts.old (by rw [hd]; exact hne) b' off n' c' e, fun ho => ?_⟩
          have h5 : w.heap.size ≤ b' := h4.1
          rcases ho with ho | ho | ho | ho
          · have h6 : b' = es[i].b := ho
            omega
          · exact h4.2 ho
          · have := hlt b' (.inr (.inr (.inl ho))); omega
          · have := hlt b' (.inr (.inr (.inr ho))); omega))
      refine ⟨_, vl, _, ep, hT, ?_, fun k hk' => hk'.imp id (fun h => h.1), k1.mono fun k e => e.elim (fun e => hz k (.inl e)) (fun e => hz k (.inr (.inl e))), k5⟩
      rw [hput]
      exact rel_set hr (Nat.le_refl N) ho.names i hi hi' ⟨es[i].b, es[i].n, vm', vp', es[i].vo, es[i].vn, joinDD es[i].d m⟩ rfl (joinG S.gs[i].2 m) (rel_join hrel hok m)
    have htold : (0 < m.a → hasM S.gs[i].2 m.a = true) → joinT S.gs[i].2 m = ⟨0, joinD S.gs[i].2 m, es[i].d.gen + 1, 0, partsD (joinDD es[i].d m).mem m.list (joinD S.gs[i].2 m)⟩ := fun hx => by
      have := rel_parts (rel_join hrel hok m) (joinD S.gs[i].2 m) (join_has hok hx ha0)
      unfold joinT
      rw [← this, joinDD_parts, hrel.gen]
    by_cases hap : 0 < m.a
    · cases hM2 : hasM S.gs[i].2 m.a with
      | false =>
        rw [join_no (n := 17) (by unfold joinE; rw [if_neg hbad, if_neg (by rw [hgk]; simp), if_pos (by rw [hfg]; exact ⟨hap, hM2⟩)]) (by simp)]
        exact (rj_stranger h.c hlen m la lc hl hnm hn1 hr1 hap es[i] hf (by rw [hh, hM2])).mono fun e w' ⟨h1, h2⟩ => appP_same h hr h1 h2
      | true =>
        have hj : joinE S.gs m = 0 := by
          unfold joinE
          rw [if_neg hbad, if_neg (by rw [hgk]; simp), if_neg (by rw [hfg, hM2]; simp), if_neg]
          rintro (⟨h, _⟩ | ⟨h, _⟩ | h)
          · rw [hgk] at h; simp at h
          · omega
          · rw [hfg] at h; omega
        rw [join_yes hj, hfg]
        have hjd : joinD S.gs[i].2 m = m.a := by unfold joinD; rw [if_neg (by omega)]
        refine (rj_again h.c hlen m la lc hl hnm hn1 hr1 hap es[i] hf (by rw [hh, hM2]) hgend hself.m hself.o hself.n).mono ?_
        rintro e w' ⟨vp', k1, k2, k3, k4⟩
        rw [htold (fun _ => hM2), hjd, joinDD_mem (by omega)]
        exact hdone es[i].vm vp' w' e _ (k1.mono fun k e => .inl e) k2 (fun k e => .inl e) (fun hne b' off n' c' e => by
          have h5 : w.heap.size ≤ b' := k3 hne b' off n' c' e
          exact ⟨h5, fun e2 => by have := hlt b' (.inr (.inl e2)); omega⟩) k4
    · have hzz : m.a = 0 := by omega
      by_cases h16 : 16 ≤ es[i].d.mem.length
      · rw [join_no (n := 3) (by unfold joinE; rw [if_neg hbad, if_neg (by omega), if_neg (by omega), if_pos (.inr (.inl ⟨hzz, by rw [hfg, ← hmemlen]; exact h16⟩))]) (by simp)]
        exact (rj_many1 h.c hlen m la lc hl hnm hn1 hr1 hzz es[i] hf (.inl h16)).mono fun e w' ⟨h1, h2⟩ => appP_same h hr h1 h2
      · have hj : joinE S.gs m = 0 := by
          unfold joinE
          rw [if_neg hbad, if_neg (by omega), if_neg (by omega), if_neg]
          rintro (⟨h, _⟩ | ⟨_, h⟩ | h)
          · rw [hgk] at h; simp at h
          · rw [hfg, ← hmemlen] at h; omega
          · rw [hfg] at h; omega
        rw [join_yes hj, hfg]
        have hjd : joinD S.gs[i].2 m = es[i].d.ever + 1 := by unfold joinD; rw [if_pos hzz, hrel.ever]
        refine (rj_known h.c hlen m la lc hl hnm hn1 hr1 hzz es[i] hf (by omega) hevd hgend hself (hps.mono fun k hk' => ⟨fun e => hk'.2.2.2 _ hmem (.inr (.inl e)), fun e => hk'.2.2.2 _ hmem (.inl e)⟩) (hlz.mono fun k hk' => ⟨fun e => hk' (hz k (.inl e)), fun e => hk' (hz k (.inr (.inl e)))⟩)).mono ?_
        rintro e w' ⟨vm', vp', k1, k2, k3, k4, k5⟩
        rw [htold (fun hp => by omega), hjd, joinDD_mem0 hzz]
        exact hdone vm' vp' w' e _ k1 k2 k3 k4 k5
end Go.Proofs.Ytdnpbhijjmlecaa

/- The document's Apply on the groups of a call's own: any record. -/
namespace Go.Proofs.Ytdnpbhijjmlecaa
open Go.RowKit Go.Maps
set_option maxRecDepth 100000
set_option linter.unusedSimpArgs false
set_option linter.unusedVariables false

theorem DM.keep {Z : Nat → Prop} {w w' : World} {r : Nat} {vl : Value} {es : List Ent} {ep : Int} (h : DM Z w r vl es ep) (hk : ∀ k, Z k → w'.heap[k]? = w.heap[k]?) (hs : w.heap.size ≤ w'.heap.size) : DM Z w' r vl es ep :=
  ⟨⟨(hk r h.rz).trans h.c.cells, row_kept h.c.row (fun k hk' => hk k (h.lz k hk')), fun e he => (h.c.each e he).kept (X := Z) (fun k hk' => (h.own e he k hk').1) ((h.ps e he).mono fun k hk' => hk'.1) (fun k hz _ => hk k hz) hs⟩, h.rz, h.lz, h.lr, h.own, h.ap, h.self, h.ps, fun k hk' => Nat.lt_of_lt_of_le (h.zlt k hk') hs⟩
theorem AppP.lift {Z : Nat → Prop} {w W w2 V : World} {r N q : Nat} {S : Gs} {t : Td} {e : Ending} (h : AppP Z W r N S t e w2) (hz : ∀ k, Z k → k < w.heap.size) (hb : Below w.heap.size w W) (hq : w.heap.size ≤ q) (hq2 : q < W.heap.size) (hk : Keeps (fun k => k = q) w2 V) : AppP Z w r N S t e V := by
  obtain ⟨Z', vl, es, ep, h1, h2, h3, h4, ⟨pa, pc, h5, h6, h7⟩⟩ := h
  have hs := hb.size
  have hs2 := h4.size
  have hne : ∀ k, Z' k → k ≠ q := fun k hk' => by
    rcases h3 k hk' with h | h
    · have := hz k h; omega
    · omega
  refine ⟨Z', vl, es, ep, h1.keep (fun k hk' => hk.block k (h1.zlt k hk') (hne k hk')) hk.size, h2, fun k hk' => (h3 k hk').imp id (fun h => by omega), ((Keeps.of_below (S := Z) hb).trans h4 (fun k h => .inl h)).trans hk (fun k h => .inr (by rw [show k = q from h]; exact hq)), pa, pc, h5, ?_, h7.mono fun k hk' => by have : W.heap.size ≤ k := hk'; omega⟩
  exact h6.kept (X := fun k => W.heap.size ≤ k ∧ k < w2.heap.size) (fun hne b off n c e => ⟨(h7 hne b off n c e : W.heap.size ≤ b), h6.old hne b off n c e⟩) (fun k hk' => hk.block k hk'.2 (by omega)) hk.size
set_option maxHeartbeats 3200000 in
theorem kjoin {Z : Nat → Prop} {w : World} {r N M : Nat} {vl : Value} {es : List Ent} {ep : Int} {S : Gs} (h : DM Z w r vl es ep) (hr : RelS N es ep S) (ho : GsOk M S) (hM : M ≤ 1000000) (hev : ∀ p ∈ S.gs, p.2.ever < 1000000) (m : Rc) (la : Option Addr) (lc : Nat) (hl : IL w (.slice la m.list.length lc) m.list) (hnm : m.name.size ≤ maxLen) (hlz : In (fun k => ¬ Z k) (.slice la m.list.length lc) m.list) (hk1 : m.kind = 1) :
    Calls Try.prog 13 #[.pointer (some ⟨r, 0, none⟩), recV m (.slice la m.list.length lc)] w fun e w' => AppP Z w r N (applyI S m).1 (applyI S m).2 e w' := by
  have hT := tb8_new (fun _ => False) w (recA m (.slice la m.list.length lc)) zTd
  have HT := hid hT
  have HZ := hid h.zlt
  have e0 : applyI S m = joinI S m := by unfold applyI; rw [if_pos hk1]
  rw [e0]
  obtain ⟨S', hS'⟩ : ∃ S', S' = (joinI S m).1 := ⟨_, rfl⟩
  obtain ⟨t, ht⟩ : ∃ t, t = (joinI S m).2 := ⟨_, rfl⟩
  have HJ := hid (kjoin25 (h.under hT.k.base) hr ho hM hev m la lc (hl.under hT.k.base) hnm hlz)
  rw [← hS', ← ht] at HJ ⊢
  have HK1 := hid hk1
  clear hT h hr ho hev hl hlz e0 hS' ht hk1 hnm
  unfold recV recA zTd at *
  go_enter Try.func13, Try.ntmps13
  go_upto_region 1 with fail
  generalize (w.alloc (.cells #[.int .i64 m.kind, .int .i64 m.a, .int .i64 m.b, .int .i64 m.c, .int .i64 m.d, .string m.name, .string m.text, .slice la m.list.length lc] 32)).alloc (.cells #[.int .i64 0, .int .i64 0, .int .i64 0, .int .i64 0, .slice none 0 0] 38) = W at *
  have a0 := cell_blk HT.out.x 0 _ rfl
  have a1 := cell_blk HT.out.x 1 _ rfl
  have a2 := cell_blk HT.out.x 2 _ rfl
  have a3 := cell_blk HT.out.x 3 _ rfl
  have a4 := cell_blk HT.out.x 4 _ rfl
  have a5 := cell_blk HT.out.x 5 _ rfl
  have a6 := cell_blk HT.out.x 6 _ rfl
  have a7 := cell_blk HT.out.x 7 _ rfl
  rw [HK1.out] at a0 HJ
  go_wp2_with fail
  refine HJ.out.mono ?_
  rintro e w2 hA
  have HA := hid hA
  obtain ⟨pa, pc, rfl⟩ : ∃ pa pc, e = .returned (.agg #[.int .i64 t.err, .int .i64 t.mem, .int .i64 t.gen, .int .i64 t.off, .slice pa t.parts.length pc]) := by
    obtain ⟨_, _, _, _, _, _, _, _, pa, pc, h5, _⟩ := hA
    exact ⟨pa, pc, h5⟩
  have hkw : Keeps Z W w2 := by obtain ⟨_, _, _, _, _, _, _, h4, _⟩ := hA; exact h4
  have HT6 := hid ((HT.out.mono (Z' := Z) (fun _ h => h.elim)).next hkw (fun k h => .inl h) (fun h => by have := HZ.out _ h; omega) (fun h => by have := HZ.out _ h; omega))
  clear a0 a1 a2 a3 a4 a5 a6 a7 hA hkw
  have z0 := cell_blk HT6.out.z 0 _ rfl
  have z1 := cell_blk HT6.out.z 1 _ rfl
  have z2 := cell_blk HT6.out.z 2 _ rfl
  have z3 := cell_blk HT6.out.z 3 _ rfl
  have z4 := cell_blk HT6.out.z 4 _ rfl
  have fz := frz_blk HT6.out.z
  go_wp2_with fail
  have HK5 := hid (five_keeps w2 (w.heap.size + 1) (.int .i64 t.err) (.int .i64 t.mem) (.int .i64 t.gen) (.int .i64 t.off) (.slice pa t.parts.length pc))
  unfold five at HK5
  have HT5 := hid ((HT6.out).five rfl (.int .i64 t.err) (.int .i64 t.mem) (.int .i64 t.gen) (.int .i64 t.off) (.slice pa t.parts.length pc))
  unfold five at HT5
  generalize ((((w2.setCell ⟨w.heap.size + 1, 0, none⟩ (.int .i64 t.err)).setCell ⟨w.heap.size + 1, 1, none⟩ (.int .i64 t.mem)).setCell ⟨w.heap.size + 1, 2, none⟩ (.int .i64 t.gen)).setCell ⟨w.heap.size + 1, 3, none⟩ (.int .i64 t.off)).setCell ⟨w.heap.size + 1, 4, none⟩ (.slice pa t.parts.length pc) = N5 at *
  have r0 := cell_blk HT5.out.z 0 _ rfl
  have r1 := cell_blk HT5.out.z 1 _ rfl
  have r2 := cell_blk HT5.out.z 2 _ rfl
  have r3 := cell_blk HT5.out.z 3 _ rfl
  have r4 := cell_blk HT5.out.z 4 _ rfl
  exact bodyPost_ret (v := .agg #[.int .i64 t.err, .int .i64 t.mem, .int .i64 t.gen, .int .i64 t.off, .slice pa t.parts.length pc]) (by simp [results, Try.results13, go_sem, r0, r1, r2, r3, r4]) rfl (HA.out.lift HZ.out HT.out.k.base (by omega) (by have := HT.out.s; omega) HK5.out)
/-- The document's Apply, any record. -/
theorem kapply {Z : Nat → Prop} {w : World} {r N M : Nat} {vl : Value} {es : List Ent} {ep : Int} {S : Gs} (h : DM Z w r vl es ep) (hr : RelS N es ep S) (ho : GsOk M S) (hM : M ≤ 1000000) (hN : N ≤ 100000) (hev : ∀ p ∈ S.gs, p.2.ever < 1000000) (m : Rc) (hrc : RcOk m) (la : Option Addr) (lc : Nat) (hl : IL w (.slice la m.list.length lc) m.list) (hnm : m.name.size ≤ maxLen) (hlz : In (fun k => ¬ Z k) (.slice la m.list.length lc) m.list) :
    Calls Try.prog 13 #[.pointer (some ⟨r, 0, none⟩), recV m (.slice la m.list.length lc)] w fun e w' => AppP Z w r (N + 1) (applyI S m).1 (applyI S m).2 e w' := by
  by_cases h1 : m.kind = 1
  · exact (kjoin h hr ho hM hev m la lc hl hnm hlz h1).mono fun e w' h => h.mono (by omega)
  by_cases h2 : m.kind = 2
  · exact (kleave h hr ho hM m la lc h2).mono fun e w' h => h.mono (by omega)
  by_cases h3 : m.kind = 3
  · exact kcommit h hr ho hN m hrc la lc hl hlz h3
  by_cases h4 : m.kind = 4
  · exact (kread h hr ho hN m la lc h4).mono fun e w' h => h.mono (by omega)
  by_cases h5 : m.kind = 5
  · exact (kepoch h hr m la lc h5).mono fun e w' h => h.mono (by omega)
  by_cases h6 : m.kind = 6
  · exact (ksync h hr ho m la lc h6).mono fun e w' h => h.mono (by omega)
  · exact (kbad h hr m la lc h1 h5 (by omega)).mono fun e w' h => h.mono (by omega)
end Go.Proofs.Ytdnpbhijjmlecaa

/- Is what is told the same? -/
namespace Go.Proofs.Ytdnpbhijjmlecaa
open Go.RowKit Go.Maps
set_option maxRecDepth 100000
set_option linter.unusedSimpArgs false
set_option linter.unusedVariables false

set_option maxHeartbeats 3200000 in
theorem same_any {w : World} (t : Td) (a b : Option Addr) (c d : Nat) (h1 : IL w (.slice a t.parts.length c) t.parts) (h2 : IL w (.slice b t.parts.length d) t.parts) : Calls Try.prog 11 #[.agg #[.int .i64 t.err, .int .i64 t.mem, .int .i64 t.gen, .int .i64 t.off, .slice a t.parts.length c], .agg #[.int .i64 t.err, .int .i64 t.mem, .int .i64 t.gen, .int .i64 t.off, .slice b t.parts.length d]] w fun e w' => e = .returned (.bool true) ∧ Below w.heap.size w w' := by
  obtain ⟨t1, t2, t3, t4, t5⟩ := t
  simp only at h1 h2 ⊢
  have hB : Below w.heap.size w ((w.alloc (.cells #[.int .i64 t1, .int .i64 t2, .int .i64 t3, .int .i64 t4, .slice a t5.length c] 36)).alloc (.cells #[.int .i64 t1, .int .i64 t2, .int .i64 t3, .int .i64 t4, .slice b t5.length d] 38)) := ((Below.refl _ _).alloc (Nat.le_refl _) _).alloc (by simp) _
  have p1 : ((w.alloc (.cells #[.int .i64 t1, .int .i64 t2, .int .i64 t3, .int .i64 t4, .slice a t5.length c] 36)).alloc (.cells #[.int .i64 t1, .int .i64 t2, .int .i64 t3, .int .i64 t4, .slice b t5.length d] 38)).heap[w.heap.size]? = some (.cells #[.int .i64 t1, .int .i64 t2, .int .i64 t3, .int .i64 t4, .slice a t5.length c] 36) := by
    rw [Below.heap_alloc _ _ _ (by simp)]; exact heap_alloc_new _ _
  have p2 : ((w.alloc (.cells #[.int .i64 t1, .int .i64 t2, .int .i64 t3, .int .i64 t4, .slice a t5.length c] 36)).alloc (.cells #[.int .i64 t1, .int .i64 t2, .int .i64 t3, .int .i64 t4, .slice b t5.length d] 38)).heap[w.heap.size + 1]? = some (.cells #[.int .i64 t1, .int .i64 t2, .int .i64 t3, .int .i64 t4, .slice b t5.length d] 38) := by
    have := heap_alloc_new (w.alloc (.cells #[.int .i64 t1, .int .i64 t2, .int .i64 t3, .int .i64 t4, .slice a t5.length c] 36)) (.cells #[.int .i64 t1, .int .i64 t2, .int .i64 t3, .int .i64 t4, .slice b t5.length d] 38)
    rw [show (w.alloc (.cells #[.int .i64 t1, .int .i64 t2, .int .i64 t3, .int .i64 t4, .slice a t5.length c] 36)).heap.size = w.heap.size + 1 by simp] at this
    exact this
  go_enter Try.func11, Try.ntmps11
  go_upto_region 1 with fail
  have HB := hid hB
  have HP1 := hid p1
  have HP2 := hid p2
  have HS := hid (sameList_any (h1.under hB) (h2.under hB))
  rw [show decide (t5 = t5) = true by simp] at HS
  clear hB p1 p2 h1 h2
  generalize (w.alloc (.cells #[.int .i64 t1, .int .i64 t2, .int .i64 t3, .int .i64 t4, .slice a t5.length c] 36)).alloc (.cells #[.int .i64 t1, .int .i64 t2, .int .i64 t3, .int .i64 t4, .slice b t5.length d] 38) = W at *
  have a4 := cell_blk HP1.out 4 _ rfl
  have b4 := cell_blk HP2.out 4 _ rfl
  go_wp2_with fail
  refine HS.out.mono ?_
  rintro e w1 ⟨rfl, hb1⟩
  have HP3 := hid ((hb1.block _ (Array.getElem?_eq_some_iff.1 HP1.out).1).trans HP1.out)
  have HP4 := hid ((hb1.block _ (Array.getElem?_eq_some_iff.1 HP2.out).1).trans HP2.out)
  have HB1 := hid (HB.out.trans (hb1.mono HB.out.size))
  clear a4 b4 hb1
  have a0 := cell_blk HP3.out 0 _ rfl
  have a1 := cell_blk HP3.out 1 _ rfl
  have a2 := cell_blk HP3.out 2 _ rfl
  have a3 := cell_blk HP3.out 3 _ rfl
  have b0 := cell_blk HP4.out 0 _ rfl
  have b1 := cell_blk HP4.out 1 _ rfl
  have b2 := cell_blk HP4.out 2 _ rfl
  have b3 := cell_blk HP4.out 3 _ rfl
  go_wp2_with fail
  go_ret
  exact ⟨rfl, HB1.out⟩
end Go.Proofs.Ytdnpbhijjmlecaa

/- The library's contracts on the sorted keys of a map, laid at this program. -/
namespace Go.Proofs
open Go.RowKit Go.Maps Go.Sort Go.Shelf

def Try.keys47_ren : Go.Shelf.Ren := ⟨fun | 7 => 44 | 10 => 53 | n => n, fun | 23 => 52 | 26 => 9 | 3 => 73 | 28 => 79 | 0 => 0 | 27 => 78 | 33 => 76 | 4 => 4 | n => n, fun | n => n⟩
theorem Try.keys47 : Go.Proofs.SlLaysZ.n7 Try.prog Try.keys47_ren := {
  mixed := by kernel_rfl
  f7 := ⟨Try.f44.name, by decide, Try.func44.trans (congrArg some (by kernel_rfl))⟩
  f10 := ⟨Try.f53.name, by decide, Try.func53.trans (congrArg some (by kernel_rfl))⟩
  t0 := Try.underlying0
  a0 := Try.isAgg0
  z0 := Try.sizeOf0
  v0 := Try.zeroValue0
  t4 := Try.underlying4
  a4 := Try.isAgg4
  z4 := Try.sizeOf4
  v4 := Try.zeroValue4
  t23 := Try.underlying52
  a23 := Try.isAgg52
  z23 := Try.sizeOf52
  v23 := Try.zeroValue52
  t26 := Try.underlying9
  a26 := Try.isAgg9
  z26 := Try.sizeOf9
  v26 := Try.zeroValue9
  t27 := Try.underlying78
  a27 := Try.isAgg78
  z27 := Try.sizeOf78
  v27 := Try.zeroValue78
  t28 := Try.underlying79
  a28 := Try.isAgg79
  z28 := Try.sizeOf79
  v28 := Try.zeroValue79
  t33 := Try.underlying76
  a33 := Try.isAgg76
  z33 := Try.sizeOf76
  v33 := Try.zeroValue76 }
def Try.sorted46_ren : Go.Shelf.Ren := ⟨fun | 6 => 43 | 8 => 51 | 9 => 52 | 11 => 64 | 13 => 66 | 12 => 65 | 23 => 83 | 24 => 84 | 14 => 74 | 15 => 75 | 16 => 76 | 17 => 77 | 18 => 78 | 19 => 79 | 20 => 80 | 21 => 81 | 22 => 82 | 25 => 86 | 26 => 87 | 27 => 88 | 28 => 89 | 29 => 90 | 30 => 91 | 31 => 92 | n => n, fun | 26 => 9 | 28 => 79 | 24 => 66 | 0 => 0 | 3 => 3 | 37 => 96 | 48 => 110 | 50 => 112 | 4 => 4 | 40 => 103 | 39 => 102 | 45 => 82 | 5 => 5 | 9 => 9 | 51 => 115 | 55 => 119 | 57 => 121 | 58 => 122 | 33 => 76 | n => n, fun | n => n⟩
theorem Try.sorted46 : Go.Proofs.SlLaysZ.n6 Try.prog Try.sorted46_ren := {
  mixed := by kernel_rfl
  f6 := ⟨Try.f43.name, by decide, Try.func43.trans (congrArg some (by kernel_rfl))⟩
  f8 := ⟨Try.f51.name, by decide, Try.func51.trans (congrArg some (by kernel_rfl))⟩
  f11 := ⟨Try.f64.name, by decide, Try.func64.trans (congrArg some (by kernel_rfl))⟩
  t0 := Try.underlying0
  a0 := Try.isAgg0
  z0 := Try.sizeOf0
  v0 := Try.zeroValue0
  t24 := Try.underlying66
  a24 := Try.isAgg66
  z24 := Try.sizeOf66
  v24 := Try.zeroValue66
  t26 := Try.underlying9
  a26 := Try.isAgg9
  z26 := Try.sizeOf9
  v26 := Try.zeroValue9
  t28 := Try.underlying79
  a28 := Try.isAgg79
  z28 := Try.sizeOf79
  v28 := Try.zeroValue79
  i26 := by kernel_rfl }
def Try.sort55_ren : Go.Shelf.Ren := ⟨fun | 6 => 52 | 8 => 66 | 9 => 65 | 19 => 83 | 20 => 84 | 21 => 74 | 22 => 75 | 23 => 76 | 24 => 77 | 25 => 78 | 26 => 79 | 27 => 80 | 28 => 81 | 29 => 82 | 36 => 86 | 31 => 87 | 32 => 88 | 37 => 89 | 38 => 90 | 39 => 91 | 41 => 92 | n => n, fun | 27 => 66 | 29 => 9 | 3 => 3 | 32 => 96 | 26 => 66 | 0 => 0 | 44 => 110 | 46 => 112 | 4 => 4 | 36 => 103 | 35 => 102 | 41 => 82 | 5 => 5 | 9 => 9 | 53 => 115 | 57 => 119 | 63 => 121 | 64 => 122 | n => n, fun | n => n⟩
theorem Try.sort55 : Go.Proofs.SlLaysM.n6 Try.prog Try.sort55_ren := {
  mixed := by kernel_rfl
  f6 := ⟨Try.f52.name, by decide, Try.func52.trans (congrArg some (by kernel_rfl))⟩
  f8 := Try.func66.trans (congrArg some (by kernel_rfl))
  f9 := ⟨Try.f65.name, by decide, Try.func65.trans (congrArg some (by kernel_rfl))⟩
  f19 := Try.func83.trans (congrArg some (by kernel_rfl))
  f20 := Try.func84.trans (congrArg some (by kernel_rfl))
  f21 := ⟨Try.f74.name, by decide, Try.func74.trans (congrArg some (by kernel_rfl))⟩
  f22 := ⟨Try.f75.name, by decide, Try.func75.trans (congrArg some (by kernel_rfl))⟩
  f23 := ⟨Try.f76.name, by decide, Try.func76.trans (congrArg some (by kernel_rfl))⟩
  f24 := ⟨Try.f77.name, by decide, Try.func77.trans (congrArg some (by kernel_rfl))⟩
  f25 := ⟨Try.f78.name, by decide, Try.func78.trans (congrArg some (by kernel_rfl))⟩
  f26 := ⟨Try.f79.name, by decide, Try.func79.trans (congrArg some (by kernel_rfl))⟩
  f27 := ⟨Try.f80.name, by decide, Try.func80.trans (congrArg some (by kernel_rfl))⟩
  f28 := ⟨Try.f81.name, by decide, Try.func81.trans (congrArg some (by kernel_rfl))⟩
  f29 := ⟨Try.f82.name, by decide, Try.func82.trans (congrArg some (by kernel_rfl))⟩
  f31 := Try.func87.trans (congrArg some (by kernel_rfl))
  f32 := Try.func88.trans (congrArg some (by kernel_rfl))
  f36 := ⟨Try.f86.name, by decide, Try.func86.trans (congrArg some (by kernel_rfl))⟩
  f37 := ⟨Try.f89.name, by decide, Try.func89.trans (congrArg some (by kernel_rfl))⟩
  f38 := ⟨Try.f90.name, by decide, Try.func90.trans (congrArg some (by kernel_rfl))⟩
  f39 := ⟨Try.f91.name, by decide, Try.func91.trans (congrArg some (by kernel_rfl))⟩
  f41 := ⟨Try.f92.name, by decide, Try.func92.trans (congrArg some (by kernel_rfl))⟩
  t0 := Try.underlying0
  a0 := Try.isAgg0
  z0 := Try.sizeOf0
  v0 := Try.zeroValue0
  t3 := Try.underlying3
  a3 := Try.isAgg3
  z3 := Try.sizeOf3
  v3 := Try.zeroValue3
  t4 := Try.underlying4
  a4 := Try.isAgg4
  z4 := Try.sizeOf4
  v4 := Try.zeroValue4
  t5 := Try.underlying5
  a5 := Try.isAgg5
  z5 := Try.sizeOf5
  v5 := Try.zeroValue5
  t9 := Try.underlying9
  a9 := Try.isAgg9
  z9 := Try.sizeOf9
  v9 := Try.zeroValue9
  t26 := Try.underlying66
  a26 := Try.isAgg66
  z26 := Try.sizeOf66
  v26 := Try.zeroValue66
  t27 := Try.underlying66
  a27 := Try.isAgg66
  z27 := Try.sizeOf66
  v27 := Try.zeroValue66
  t29 := Try.underlying9
  a29 := Try.isAgg9
  z29 := Try.sizeOf9
  v29 := Try.zeroValue9
  t32 := Try.underlying96
  a32 := Try.isAgg96
  z32 := Try.sizeOf96
  v32 := Try.zeroValue96
  t35 := Try.underlying102
  a35 := Try.isAgg102
  z35 := Try.sizeOf102
  v35 := Try.zeroValue102
  t36 := Try.underlying103
  a36 := Try.isAgg103
  z36 := Try.sizeOf103
  v36 := Try.zeroValue103
  t41 := Try.underlying82
  a41 := Try.isAgg82
  z41 := Try.sizeOf82
  v41 := Try.zeroValue82
  t44 := Try.underlying110
  a44 := Try.isAgg110
  z44 := Try.sizeOf110
  v44 := Try.zeroValue110
  t46 := Try.underlying112
  a46 := Try.isAgg112
  z46 := Try.sizeOf112
  v46 := Try.zeroValue112
  t53 := Try.underlying115
  a53 := Try.isAgg115
  z53 := Try.sizeOf115
  v53 := Try.zeroValue115
  t57 := Try.underlying119
  a57 := Try.isAgg119
  z57 := Try.sizeOf119
  v57 := Try.zeroValue119
  t63 := Try.underlying121
  a63 := Try.isAgg121
  z63 := Try.sizeOf121
  v63 := Try.zeroValue121
  t64 := Try.underlying122
  a64 := Try.isAgg122
  z64 := Try.sizeOf122
  v64 := Try.zeroValue122 }

theorem Try.sorts46 (m : Nat) : AnyZ.SortsIn Try.prog Try.sorted46_ren Fence.wide m :=
  ⟨fun blk off cap ss W hH hblk hsz => callsIn_wide.2 (AnyM.slices_Sort_string Try.sort55 blk off cap ss W hH hblk hsz),
   fun p cap W => callsIn_wide.2 (AnyM.slices_Sort_string_none Try.sort55 p cap W)⟩

theorem Try.maps_Keys_44 (mb : Option Nat) (W : World) : CallsIn Fence.wide 5 Try.prog 44 #[.map mb] W fun e w' => e = .returned (.func (.func 53) #[] #[.pointer (some ⟨W.heap.size, 0, none⟩)]) ∧ w' = W.alloc (.cells #[.map mb] 52) :=
  AnyZ.keys_in Try.keys47 Fence.wide 5 trivial rfl mb W

set_option maxHeartbeats 1000000 in
theorem Try.slices_Sorted_keys_43_44 {H : Type} (b nn : Nat) (D0 : DataW H) (R : Value → Option (DataW H × List MemPlace)) (w : World) (hown : w.ownsMap Try.prog 9 R b nn D0) (hmax : Maps.size D0 ≤ maxLen) (hbytes : Maps.size D0 * 16 ≤ 140737488355328) :
    CallsIn Fence.wide 5 Try.prog 43 #[.func (.func 53) #[] #[.pointer (some ⟨w.heap.size, 0, none⟩)]] (w.alloc (.cells #[.map (some b)] 52)) fun e w' => ∃ (v : Value) (ss : List (List UInt8)), e = .returned v ∧ ss.Perm (strKeys D0) ∧
      w'.ownsRow (w.alloc (.cells #[.map (some b)] 52)).heap.size 9 1 v ss.length ((ss.mergeSort (fun x y => decide (x ≤ y))).map encStr) ∧ (v = .slice none 0 0 ↔ ss = []) ∧ Below (w.alloc (.cells #[.map (some b)] 52)).heap.size (w.alloc (.cells #[.map (some b)] 52)) w' := by
  have hbl := hown.lt
  have hseq : SeqGives Fence.wide 2 Try.prog 53 #[.pointer (some ⟨w.heap.size, 0, none⟩)] encStr (fun ss => ss.Perm (strKeys D0)) (Maps.size D0) (w.alloc (.cells #[.map (some b)] 52)) :=
    AnyZ.keys_gives (ρ := Try.keys47_ren) { Try.keys47 with } Fence.wide _ trivial rfl (by omega) w.heap.size b nn D0 _ (by simp) (by simp) (by
      obtain ⟨es, clock, hb, Ft, hs, hD⟩ := hown
      exact ⟨es, clock, (Below.heap_alloc _ _ b hbl).trans hb, Ft, hs, hD⟩)
  exact AnyZ.sorted_in Try.sorted46 Fence.wide 5 trivial trivial trivial trivial rfl (by omega) (Try.sorts46 _) (enters_of Try.func52 (by kernel_rfl) rfl) 53 #[.pointer (some ⟨w.heap.size, 0, none⟩)] trivial (enters_of Try.func53 (by kernel_rfl) rfl)  _ _ hmax hbytes _ hseq

set_option maxHeartbeats 1000000 in
theorem Try.slices_Sorted_keys_nil_43_44 (w : World) :
    CallsIn Fence.wide 5 Try.prog 43 #[.func (.func 53) #[] #[.pointer (some ⟨w.heap.size, 0, none⟩)]] (w.alloc (.cells #[.map none] 52)) fun e w' => ∃ (v : Value) (ss : List (List UInt8)), e = .returned v ∧ ss = [] ∧
      w'.ownsRow (w.alloc (.cells #[.map none] 52)).heap.size 9 1 v ss.length ((ss.mergeSort (fun x y => decide (x ≤ y))).map encStr) ∧ (v = .slice none 0 0 ↔ ss = []) ∧ Below (w.alloc (.cells #[.map none] 52)).heap.size (w.alloc (.cells #[.map none] 52)) w' := by
  have hseq : SeqGives Fence.wide 2 Try.prog 53 #[.pointer (some ⟨w.heap.size, 0, none⟩)] encStr (fun ss : List (List UInt8) => ss = []) 0 (w.alloc (.cells #[.map none] 52)) :=
    AnyZ.keys_gives_nil (ρ := Try.keys47_ren) { Try.keys47 with } Fence.wide _ trivial rfl w.heap.size _ (by simp) (by simp)
  exact AnyZ.sorted_in Try.sorted46 Fence.wide 5 trivial trivial trivial trivial rfl (by omega) (Try.sorts46 _) (enters_of Try.func52 (by kernel_rfl) rfl) 53 #[.pointer (some ⟨w.heap.size, 0, none⟩)] trivial (enters_of Try.func53 (by kernel_rfl) rfl) _ 0 (Nat.zero_le _) (by omega) _ hseq

end Go.Proofs

/- What Names tells: the names of all groups, rising. -/
namespace Go.Proofs.Ytdnpbhijjmlecaa
open Go.RowKit Go.Maps Go.Sort
set_option maxRecDepth 100000
set_option linter.unusedSimpArgs false
set_option linter.unusedVariables false

theorem before_le : ∀ (a b : List UInt8), bytesBefore a b = true → a ≤ b
  | [], [], h => by simp [bytesBefore] at h
  | [], y :: s, _ => by simp
  | x :: r, [], h => by simp [bytesBefore] at h
  | x :: r, y :: s, h => by
    simp only [bytesBefore, Bool.or_eq_true, Bool.and_eq_true, decide_eq_true_eq, beq_iff_eq] at h
    rw [List.cons_le_cons_iff]
    rcases h with h | ⟨h1, h2⟩
    · exact .inl h
    · exact .inr ⟨h1, before_le r s h2⟩
theorem AllC.rising {w : World} {q b : Nat} {es : List En} {S : Gs} (h : AllC w q b es S) : es.Pairwise (fun d e => bytesBefore d.name e.name = true) := by
  obtain ⟨xs, he, hp, _⟩ := h.bmap.canon law9
  have : xs = es.map fun e => (Lit.string e.name, (DataW.held (ptr e.at_) : DataW Value)) := by simp only [gmap, DataW.map.injEq] at he; exact he.symm
  subst this
  rw [List.pairwise_map] at hp
  exact hp
theorem strKeys_gmap (es : List En) : strKeys (gmap es) = es.map (·.name) := by
  simp [strKeys, gmap, Function.comp_def, Go.strOf]
theorem sorted_names {es : List En} (hr : es.Pairwise (fun p q => bytesBefore p.name q.name = true)) {ss : List (List UInt8)} (hp : ss.Perm (es.map (·.name))) : ss.mergeSort (fun x y => decide (x ≤ y)) = es.map (·.name) := by
  have h1 : ss.mergeSort (fun x y => decide (x ≤ y)) = (es.map (·.name)).mergeSort (fun x y => decide (x ≤ y)) := mergeSort_of_perm hp
  rw [h1]
  refine List.mergeSort_of_pairwise ?_
  rw [List.pairwise_map]
  exact hr.imp (fun h => by simpa using before_le _ _ h)
set_option maxHeartbeats 1000000 in
theorem names_any {w : World} {Z : Nat → Prop} {q : Nat} {S : Gs} {N : Nat} (h : AllM w Z q S) (hok : GsOk N S) :
    Calls Try.prog 32 #[.pointer (some ⟨q, 0, none⟩)] w fun e w' => ∃ v, e = .returned v ∧ w'.ownsRow w.heap.size 9 1 v S.gs.length ((S.gs.map (·.1)).map encStr) ∧ Below w.heap.size w w' := by
  obtain ⟨b, es, h, _⟩ := h
  have hl0 : S.gs.length = es.length := by rw [h.abs]; simp
  have hn0 : S.gs.map (·.1) = es.map (·.name) := by rw [h.abs]; simp [Function.comp_def]
  rw [hl0, hn0]
  have hfew : es.length ≤ 8 := by have := hok.few; omega
  have c0 := h.c0
  have hr := h.rising
  have hown : w.ownsMap Try.prog 9 Rg b es.length (gmap es) := h.bmap
  have hmax : Maps.size (gmap es) ≤ maxLen := by rw [gmap_size]; unfold maxLen; omega
  have hbytes : Maps.size (gmap es) * 16 ≤ 140737488355328 := by rw [gmap_size]; omega
  clear h hok hl0 hn0
  refine (callsIn_wide (n := 6)).1 ?_
  have hfK : Fence.wide.fn 44 := trivial
  have hfS : Fence.wide.fn 43 := trivial
  refine callsIn_of_wp Try.func32 rfl trivial ?_ rfl
  simp only [Try.ntmps32, List.size_toArray, List.length_cons, List.length_nil, Nat.reduceAdd, Nat.reduceSub, Array.replicate_succ, Array.replicate_zero, List.push_toArray, List.append_toArray, List.nil_append, List.cons_append]
  gi_wp2_with (first
    | (gi_at_call 44; refine (Try.maps_Keys_44 _ _).mono ?_; rintro e w' ⟨rfl, rfl⟩)
    | (gi_at_call 43; refine (Try.slices_Sorted_keys_43_44 b es.length (gmap es) Rg w hown hmax hbytes).mono ?_; rintro e w' ⟨v, ss, rfl, hS, hrow, hnil, hb⟩))
  go_ret
  rw [strKeys_gmap] at hS
  have hl : ss.length = es.length := by simpa using hS.length_eq
  rw [sorted_names hr hS, hl] at hrow
  exact ⟨v, rfl, ownsRow_base_a hrow (by simp), ((Below.refl _ w).alloc (Nat.le_refl _) _).trans (hb.mono (by simp))⟩
end Go.Proofs.Ytdnpbhijjmlecaa

/- What is kept while records come: names are right; how many members there ever were. -/
namespace Go.Proofs.Ytdnpbhijjmlecaa
set_option linter.unusedSimpArgs false
set_option linter.unusedVariables false

structure EvOk (k : Nat) (S : Gs) : Prop where
  ever : ∀ p ∈ S.gs, p.2.ever ≤ k
  name : ∀ p ∈ S.gs, p.1.all isOfB = true
theorem mem_insQ (z p : List UInt8 × Gr) : ∀ L : GL, p ∈ insG z L ↔ p = z ∨ p ∈ L
  | [] => by simp [insG]
  | y :: r => by
    unfold insG
    split
    · simp
    · simp only [List.mem_cons, mem_insQ z p r]
      constructor
      · rintro (h | h | h) <;> simp [h]
      · rintro (h | h | h) <;> simp [h]
theorem EvOk.set {k : Nat} {S : Gs} (h : EvOk k S) (n : List UInt8) (y : Gr) (hy : y.ever ≤ k + 1) (ep : Int) : EvOk (k + 1) ⟨setG S.gs n y, ep⟩ := by
  refine ⟨fun p hp => ?_, fun p hp => ?_⟩
  · obtain ⟨z, hz, rfl⟩ := List.mem_map.1 hp
    split
    · exact hy
    · have := h.ever z hz; omega
  · obtain ⟨z, hz, rfl⟩ := List.mem_map.1 hp
    split
    · exact h.name z hz
    · exact h.name z hz
theorem EvOk.up {k : Nat} {S : Gs} (h : EvOk k S) (ep : Int) : EvOk (k + 1) ⟨S.gs, ep⟩ := ⟨fun p hp => by have := h.ever p hp; omega, h.name⟩
theorem one_ever (x : Gr) (m : Rc) : (oneI x m).1.ever = x.ever := by
  unfold oneI
  split
  · unfold leaveI; split <;> rfl
  · split
    · unfold commitI; split <;> rfl
    · split
      · unfold syncI; split <;> rfl
      · rfl
theorem found_ever {k : Nat} {S : Gs} (h : EvOk k S) (n : List UInt8) : (foundG S.gs n).ever ≤ k := by
  unfold foundG
  cases hg : getG S.gs n with
  | none => show (0 : Int) ≤ k; omega
  | some x => exact h.ever _ (get_mem hg)
theorem apply_ever {k : Nat} {S : Gs} (h : EvOk k S) (m : Rc) : EvOk (k + 1) (applyI S m).1 := by
  unfold applyI
  split
  · unfold joinI
    split
    · exact h.up _
    · rename_i hj
      have hf := found_ever h m.key
      have hy : (joinG (foundG S.gs m.key) m).ever ≤ k + 1 := by
        unfold joinG joinX
        split
        · show (foundG S.gs m.key).ever + 1 ≤ _; omega
        · show (foundG S.gs m.key).ever ≤ _; omega
      show EvOk (k + 1) ⟨putG S.gs m.key _, S.epoch⟩
      unfold putG
      split
      · exact h.set _ _ hy _
      · have hn : nameB m.name = true := by
          have : joinE S.gs m = 0 := by simpa using hj
          unfold joinE at this
          split at this
          · omega
          · rename_i h1
            cases hb : nameB m.name with
            | true => rfl
            | false => exact absurd (.inl hb) h1
        refine ⟨fun p hp => ?_, fun p hp => ?_⟩
        · rcases (mem_insQ _ _ _).1 hp with rfl | hp
          · exact hy
          · have := h.ever p hp; omega
        · rcases (mem_insQ _ _ _).1 hp with rfl | hp
          · unfold nameB at hn
            simp only [Bool.and_eq_true] at hn
            exact hn.2
          · exact h.name p hp
  · split
    · unfold askI
      split
      · exact h.up _
      · rename_i x hx
        refine h.set _ _ ?_ _
        rw [one_ever]
        have := h.ever _ (get_mem hx)
        show x.ever ≤ _
        have h2 : x.ever ≤ k := this
        omega
    · split
      · unfold epochI
        split
        · exact h.up _
        · exact h.up _
      · exact h.up _
def noB : ByteArray := ⟨#[110, 111, 32, 115, 117, 99, 104, 32, 103, 114, 111, 117, 112]⟩
theorem no_found {k : Nat} {S : Gs} (h : EvOk k S) : foundG S.gs noB.data.toList = Gr.zero := by
  unfold foundG
  cases hg : getG S.gs noB.data.toList with
  | none => rfl
  | some x =>
    have := h.name _ (get_mem hg)
    have h2 : noB.data.toList.all isOfB = true := this
    exact absurd h2 (by decide)
end Go.Proofs.Ytdnpbhijjmlecaa

