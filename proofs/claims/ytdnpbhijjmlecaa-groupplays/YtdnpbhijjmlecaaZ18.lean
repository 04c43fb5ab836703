/- The document's Apply on the groups of a call's own: a commit. -/
import Derived.Test.YtdnpbhijjmlecaaZ13
import Derived.Test.YtdnpbhijjmlecaaZ14
import Derived.Test.YtdnpbhijjmlecaaZ15
import Derived.Test.YtdnpbhijjmlecaaZ17
import Derived.WideShapes
import Derived.WideAt
import Derived.Test.YtdnpbhijjmlecaaZ0
import Derived.Test.YtdnpbhijjmlecaaZ1
import Derived.Deep.CutRange
import Derived.Deep.CutBlock
namespace Go.Proofs.Ytdnpbhijjmlecaa
open Go.RowKit Go.Maps
set_option linter.unusedSimpArgs false
set_option linter.unusedVariables false

theorem AppP.mono {Z : Nat → Prop} {w w' : World} {r N M : Nat} {S : Gs} {t : Td} {e : Ending} (h : AppP Z w r N S t e w') (hm : N ≤ M) : AppP Z w r M S t e w' := by
  obtain ⟨Z', vl, es, ep, h1, h2, h3⟩ := h
  exact ⟨Z', vl, es, ep, h1, h2.mono hm, h3⟩
theorem oneB_iff {l : List Int} (h : oneB l = true) : ∃ y, l = [y] ∧ 0 ≤ y ∧ y ≤ 1000000000 := by
  unfold oneB offB at h
  simp at h
  obtain ⟨h1, h2⟩ := h
  match l, h1, h2 with
  | [y], _, h2 => exact ⟨y, rfl, by simpa using h2.1, by simpa using h2.2⟩
theorem offB_iff {n : Int} (h : offB n = true) : 0 ≤ n ∧ n ≤ 1000000000 := by unfold offB at h; simpa using h
theorem kcommit {Z : Nat → Prop} {w : World} {r N M : Nat} {vl : Value} {es : List Ent} {ep : Int} {S : Gs} (h : DM Z w r vl es ep) (hr : RelS N es ep S) (ho : GsOk M S) (hN : N ≤ 100000) (m : Rc) (hrc : RcOk m) (la : Option Addr) (lc : Nat) (hl : IL w (.slice la m.list.length lc) m.list) (hlx : In (fun k => ¬ Z k) (.slice la m.list.length lc) m.list) (hk : m.kind = 3) :
    Calls Try.prog 13 #[.pointer (some ⟨r, 0, none⟩), recV m (.slice la m.list.length lc)] w fun e w' => AppP Z w r (N + 1) (applyI S m).1 (applyI S m).2 e w' := by
  have hlen : es.length ≤ 1000 := by have := hr.len; have := ho.few; omega
  rcases rel_find hr m.name with ⟨hf, hg⟩ | ⟨i, hi, hi', hf, hg, hnm, hen⟩
  · exact (knone h hr hlen m la lc (by omega) hf hg).mono fun e w' h => h.mono (by omega)
  · have hrel := (hr.each i hi hi').2
    have hok : GrOk M S.gs[i].2 := (ho.each _ (List.getElem_mem hi')).1
    have hmem : es[i] ∈ es := List.getElem_mem hi
    have hh := rel_has (M := M) hrel m.a
    have e2 : oneI S.gs[i].2 m = commitI S.gs[i].2 m := by unfold oneI; rw [if_neg (by omega), if_pos hk]
    have hno : ∀ n, comE S.gs[i].2 m = n → n ≠ 0 → applyI S m = (S, errT n) := fun n hc hn => ask_same ho (by omega) hg (by rw [e2]; unfold commitI; rw [hc, if_pos hn])
    cases hM2 : hasM S.gs[i].2 m.a with
    | false =>
      rw [hno 17 (by unfold comE memE; simp [hM2]) (by simp)]
      exact (rnomem_any h.c hlen m la lc es[i] hf (by omega) (by omega) (by omega) (by omega) (by omega) (by rw [hh, hM2])).mono fun e w' ⟨h1, h2⟩ => (appP_same h hr h1 h2).mono (by omega)
    | true =>
      have hhb : hasB es[i].d.mem m.a = true := by rw [hh, hM2]
      have hmn : ¬ hasM S.gs[i].2 m.a = false := by simp [hM2]
      by_cases hb : m.b = es[i].d.gen
      · have hme : memE S.gs[i].2 m = 0 := by unfold memE; rw [if_neg hmn, if_neg (by rw [hb, hrel.gen]; simp)]
        by_cases hbad : offB m.d = false ∨ oneB m.list = false
        · rw [hno 1 (by unfold comE; rw [hme, if_neg (by simp), if_pos hbad]) (by simp)]
          exact (rargs_any h.c hlen m la lc es[i] hf (by omega) (by omega) (by omega) (by omega) (by omega) (by omega) hhb hb (by omega) hl hbad).mono fun e w' ⟨h1, h2⟩ => (appP_same h hr h1 h2).mono (by omega)
        · have hd := offB_iff (show offB m.d = true by cases hx : offB m.d with
            | true => rfl
            | false => exact absurd (.inl hx) hbad)
          obtain ⟨y, hy, hy0, hy1⟩ := oneB_iff (show oneB m.list = true by cases hx : oneB m.list with
            | true => rfl
            | false => exact absurd (.inr hx) hbad)
          have hyh : m.list.headD 0 = y := by rw [hy]; rfl
          have hnum := rel_num hrel m.a hM2
          have hown := rel_own (M := M) hrel hok m.c
          have hnl : es[i].d.nums.length ≤ 100000 := by have := hrel.nlen; omega
          have hol : es[i].d.offs.length ≤ 100000 := by have := hrel.olen; omega
          by_cases hdup : y ≤ lastK (-1) es[i].d.nums m.a
          · rw [hno 12 (by unfold comE; rw [hme, if_neg (by simp), if_neg hbad, hyh, if_pos (by rw [← hnum]; exact hdup)]) (by simp)]
            exact (rdup_any h.c hlen m la lc es[i] hf (by omega) (by omega) (by omega) (by omega) (by omega) (by omega) hhb hb (by omega) hl y hy (by omega) (by omega) (by omega) (by omega) hnl hdup).mono fun e w' ⟨h1, h2⟩ => (appP_same h hr h1 h2).mono (by omega)
          · by_cases how : ownD es[i].d.mem es[i].d.parts m.c es[i].d.mem = m.a
            · have hce : comE S.gs[i].2 m = 0 := by unfold comE; rw [hme, if_neg (by simp), if_neg hbad, hyh, if_neg (by rw [← hnum]; exact hdup), if_neg (by rw [← hown]; simp [how])]
              obtain ⟨g1, g2⟩ := rel_commit hrel hok m hM2 hce
              rw [ask_eq (S := S) (m := m) (by omega) hg, e2, g2]
              have hself := h.self _ hmem
              have hps := h.ps _ hmem
              have hlt : ∀ k, OwnE es[i] k → k < w.heap.size := fun k hk' => OwnE.lt (h.c.each _ hmem) hk'
              have hz : ∀ k, OwnE es[i] k → Z k := fun k hk' => (h.own _ hmem k hk').1
              refine (rcommit_any h.c hlen m la lc es[i] hf (by omega) (by omega) (by omega) (by omega) (by omega) (by omega) hhb hb (by omega) hl y hy (by omega) (by omega) (by omega) (by omega) hnl hol hdup how (hps.mono fun k hk' => ⟨fun e => hk'.2.2.2 _ hmem (.inl e), fun e => hk'.2.2.2 _ hmem (.inr (.inr (.inr e)))⟩) hself.m hself.o hself.n hself.mn (hlx.mono fun k hk' => ⟨fun e => hk' (hz k (.inl e)), fun e => hk' (hz k (.inr (.inr (.inr e))))⟩) hrc).mono ?_
              rintro e w' ⟨vo', vn', k1, k2, k3, k4, k5, k6⟩
              have hT := h.turn i hi (k1.mono fun k e => e.elim .inl (fun e => .inr (.inr (.inr e)))) ⟨es[i].b, es[i].n, es[i].vm, es[i].vp, vo', vn', commitD es[i].d m⟩ rfl k2 (fun k hk' => by
                rcases hk' with h1 | h1 | h1 | h1
                · exact .inl (.inl h1)
                · exact .inl (.inr (.inl h1))
                · exact .inr ⟨k3 k h1, row_lt k2.offs h1⟩
                · rcases k4 k h1 with h2 | h2
                  · exact .inl (.inr (.inr (.inr h2)))
                  · exact .inr ⟨h2, row_lt k2.nums h1⟩) ⟨hself.m, fun e => by have h0 : w.heap.size ≤ es[i].b := k3 _ e; have h1 : es[i].b < w.heap.size := hlt _ (.inl rfl); omega, fun e => by
                  rcases k4 _ e with h2 | h2
                  · exact hself.n h2
                  · have h1 : es[i].b < w.heap.size := hlt _ (.inl rfl)
                    have h0 : w.heap.size ≤ es[i].b := h2
                    omega, fun k e e2 => by have := k3 _ e2; have := hlt k (.inr (.inl e)); omega, fun k e e2 => by
                  rcases k4 _ e2 with h2 | h2
                  · exact hself.mn k e h2
                  · have := hlt k (.inr (.inl e)); omega, k5⟩ (.inr ⟨rfl, rfl⟩)
              refine ⟨_, vl, _, ep, hT, ?_, fun k hk' => hk'.imp id (fun h => h.1), k1.mono fun k e => e.elim (fun e => hz k (.inl e)) (fun e => hz k (.inr (.inr (.inr e)))), k6⟩
              have := rel_set hr (Nat.le_succ N) ho.names i hi hi' ⟨es[i].b, es[i].n, es[i].vm, es[i].vp, vo', vn', commitD es[i].d m⟩ rfl (commitI S.gs[i].2 m).1 g1
              rw [hnm] at this
              exact this
            · rw [hno 19 (by unfold comE; rw [hme, if_neg (by simp), if_neg hbad, hyh, if_neg (by rw [← hnum]; exact hdup), if_pos (by rw [← hown]; exact how)]) (by simp)]
              exact (rstate_any h.c hlen m la lc es[i] hf (by omega) (by omega) (by omega) (by omega) (by omega) (by omega) hhb hb (by omega) hl y hy (by omega) (by omega) (by omega) (by omega) hnl hdup how).mono fun e w' ⟨h1, h2⟩ => (appP_same h hr h1 h2).mono (by omega)
      · have hme : memE S.gs[i].2 m = 18 := by unfold memE; rw [if_neg hmn, if_pos (by rw [← hrel.gen]; exact hb)]
        rw [hno 18 (by unfold comE; rw [hme, if_pos (by simp)]) (by simp)]
        exact (rgen_any h.c hlen m la lc es[i] hf (by omega) (by omega) (by omega) (by omega) (by omega) (by omega) hhb hb).mono fun e w' ⟨h1, h2⟩ => (appP_same h hr h1 h2).mono (by omega)
end Go.Proofs.Ytdnpbhijjmlecaa

/- The document's Apply: an epoch that is taken. -/
namespace Go.Proofs.Ytdnpbhijjmlecaa
open Go.RowKit Go.Maps
set_option maxRecDepth 100000
set_option linter.unusedSimpArgs false
set_option linter.unusedVariables false

set_option maxHeartbeats 3200000 in
theorem repoch_yes {w : World} {r : Nat} {vl : Value} {es : List Ent} {ep : Int} (h : DC w r vl es ep) (m : Rc) (la : Option Addr) (lc : Nat) (h5 : m.kind = 5) (hlt : ¬ m.a < ep) : Calls Try.prog 13 #[.pointer (some ⟨r, 0, none⟩), recV m (.slice la m.list.length lc)] w fun e w' => Keeps (fun k => k = r) w w' ∧ w'.heap[r]? = some (.cells #[vl, .int .i64 m.a] 29) ∧ ToldP (fun b => w.heap.size ≤ b) w' ⟨0, 0, m.a, 0, []⟩ e := by
  have HC := hid h
  have HK5 := hid h5
  have hrl : r < w.heap.size := (Array.getElem?_eq_some_iff.1 h.cells).1
  have hn1 : ¬ r = w.heap.size := by omega
  have hn2 : ¬ w.heap.size = r := by omega
  have hn3 : ¬ r = w.heap.size + 1 := by omega
  have hn4 : ¬ w.heap.size + 1 = r := by omega
  clear h5
  have hT := tb8_new (fun _ => False) w (recA m (.slice la m.list.length lc)) zTd
  have HT := hid hT
  unfold recV recA zTd at *
  go_enter Try.func13, Try.ntmps13
  go_upto_region 1 with fail
  generalize (w.alloc (.cells #[.int .i64 m.kind, .int .i64 m.a, .int .i64 m.b, .int .i64 m.c, .int .i64 m.d, .string m.name, .string m.text, .slice la m.list.length lc] 32)).alloc (.cells #[.int .i64 0, .int .i64 0, .int .i64 0, .int .i64 0, .slice none 0 0] 38) = W at *
  have a0 := cell_blk HT.out.x 0 _ rfl
  have a1 := cell_blk HT.out.x 1 _ rfl
  have a2 := cell_blk HT.out.x 2 _ rfl
  have a3 := cell_blk HT.out.x 3 _ rfl
  have a4 := cell_blk HT.out.x 4 _ rfl
  have a5 := cell_blk HT.out.x 5 _ rfl
  have a6 := cell_blk HT.out.x 6 _ rfl
  have a7 := cell_blk HT.out.x 7 _ rfl
  have z0 := cell_blk HT.out.z 0 _ rfl
  have z1 := cell_blk HT.out.z 1 _ rfl
  have z2 := cell_blk HT.out.z 2 _ rfl
  have z3 := cell_blk HT.out.z 3 _ rfl
  have z4 := cell_blk HT.out.z 4 _ rfl
  have fz := frz_blk HT.out.z
  clear hT
  have h5 := HK5.out
  have e1 := (HC.out.under HT.out.k.base).c1
  have hf1 := frz_blk (HC.out.under HT.out.k.base).cells 1
  clear h
  go_wp2_with fail
  go_region_held3 (fun V => V.cell? ⟨r, 1, none⟩ = some (.int .i64 ep) ∧ V.cell? ⟨w.heap.size, 1, none⟩ = some (.int .i64 m.a)) (go_keep) (fail)
  obtain ⟨wd, hwd⟩ : ∃ wd, wd = W.drew := ⟨_, rfl⟩
  have HTd : Hid (TB8 (fun _ => False) w wd #[.int .i64 m.kind, .int .i64 m.a, .int .i64 m.b, .int .i64 m.c, .int .i64 m.d, .string m.name, .string m.text, .slice la m.list.length lc] #[.int .i64 0, .int .i64 0, .int .i64 0, .int .i64 0, .slice none 0 0]) := by rw [hwd]; exact HT.out.under (Below.refl _ _).drew
  have HCd : Hid (wd.heap[r]? = some (.cells #[vl, .int .i64 ep] 29)) := by rw [hwd]; exact (HC.out.under HT.out.k.base).cells
  have hd1 : wd.cell? ⟨r, 1, none⟩ = some (.int .i64 ep) := cell_blk HCd.out 1 _ rfl
  have hdf := frz_blk HCd.out 1
  rw [← hwd]
  clear hwd a0 a1 a2 a3 a4 a5 a6 a7 z0 z1 z2 z3 z4 fz e1 hf1
  have a1 : wd.cell? ⟨w.heap.size, 1, none⟩ = some (.int .i64 m.a) := cell_blk HTd.out.x 1 _ rfl
  have z0 : wd.cell? ⟨w.heap.size + 1, 0, none⟩ = some (.int .i64 0) := cell_blk HTd.out.z 0 _ rfl
  have z1 : wd.cell? ⟨w.heap.size + 1, 1, none⟩ = some (.int .i64 0) := cell_blk HTd.out.z 1 _ rfl
  have z2 : wd.cell? ⟨w.heap.size + 1, 2, none⟩ = some (.int .i64 0) := cell_blk HTd.out.z 2 _ rfl
  have z3 : wd.cell? ⟨w.heap.size + 1, 3, none⟩ = some (.int .i64 0) := cell_blk HTd.out.z 3 _ rfl
  have z4 : wd.cell? ⟨w.heap.size + 1, 4, none⟩ = some (.slice none 0 0) := cell_blk HTd.out.z 4 _ rfl
  have fz := frz_blk HTd.out.z
  go_wp2_with fail
  have HS1 : Hid ((wd.setCell ⟨r, 1, none⟩ (.int .i64 m.a)).heap[r]? = some (.cells #[vl, .int .i64 m.a] 29)) := set_box (j := 1) (v := .int .i64 m.a) HCd.out
  have HT2 := hid ((HTd.out.mono (Z' := fun k => k = r) (fun k h => h.elim)).next (Keeps.set (S := fun k => k = r) wd (a := ⟨r, 1, none⟩) rfl (.int .i64 m.a)) (fun k e => .inl e) (fun e => hn2 e) (fun e => hn4 e))
  generalize wd.setCell ⟨r, 1, none⟩ (.int .i64 m.a) = W2 at *
  have HK5b := hid (five_keeps W2 (w.heap.size + 1) (.int .i64 0) (.int .i64 0) (.int .i64 m.a) (.int .i64 0) (.slice none 0 0))
  unfold five at HK5b
  have HT5 := hid ((HT2.out).five rfl (.int .i64 0) (.int .i64 0) (.int .i64 m.a) (.int .i64 0) (.slice none 0 0))
  unfold five at HT5
  generalize ((((W2.setCell ⟨w.heap.size + 1, 0, none⟩ (.int .i64 0)).setCell ⟨w.heap.size + 1, 1, none⟩ (.int .i64 0)).setCell ⟨w.heap.size + 1, 2, none⟩ (.int .i64 m.a)).setCell ⟨w.heap.size + 1, 3, none⟩ (.int .i64 0)).setCell ⟨w.heap.size + 1, 4, none⟩ (.slice none 0 0) = N5 at *
  have hr5 : N5.heap[r]? = some (.cells #[vl, .int .i64 m.a] 29) := (HK5b.out.block r (Array.getElem?_eq_some_iff.1 HS1.out).1 hn3).trans HS1.out
  have r0 := cell_blk HT5.out.z 0 _ rfl
  have r1 := cell_blk HT5.out.z 1 _ rfl
  have r2 := cell_blk HT5.out.z 2 _ rfl
  have r3 := cell_blk HT5.out.z 3 _ rfl
  have r4 := cell_blk HT5.out.z 4 _ rfl
  exact bodyPost_ret (v := .agg #[.int .i64 0, .int .i64 0, .int .i64 m.a, .int .i64 0, .slice none 0 0]) (by simp [results, Try.results13, go_sem, r0, r1, r2, r3, r4]) rfl (by first | exact ⟨HT5.out.k, hr5, told_nil⟩ | exact ⟨HT5.out.k.trans (Keeps.of_below (S := fun k => k = r) (Below.refl _ _).drew) (fun k e => .inl e), hr5, told_nil⟩)
end Go.Proofs.Ytdnpbhijjmlecaa

/- The document's Apply on the groups of a call's own: an epoch; kinds that are none. -/
namespace Go.Proofs.Ytdnpbhijjmlecaa
open Go.RowKit Go.Maps
set_option linter.unusedSimpArgs false
set_option linter.unusedVariables false

theorem kepoch {Z : Nat → Prop} {w : World} {r N : Nat} {vl : Value} {es : List Ent} {ep : Int} {S : Gs} (h : DM Z w r vl es ep) (hr : RelS N es ep S) (m : Rc) (la : Option Addr) (lc : Nat) (hk : m.kind = 5) :
    Calls Try.prog 13 #[.pointer (some ⟨r, 0, none⟩), recV m (.slice la m.list.length lc)] w fun e w' => AppP Z w r N (applyI S m).1 (applyI S m).2 e w' := by
  have e0 : applyI S m = epochI S m := by unfold applyI; rw [if_neg (by omega), if_neg (by omega), if_pos hk]
  rw [e0]
  by_cases hlt : m.a < ep
  · have e1 : epochI S m = (S, errT 13) := by unfold epochI; rw [if_pos (by rw [← hr.ep]; exact hlt)]
    rw [e1]
    exact (repoch_no h.c m la lc hk hlt).mono fun e w' ⟨h1, h2⟩ => appP_same h hr h1 h2
  · have e1 : epochI S m = ({ S with epoch := m.a }, ⟨0, 0, m.a, 0, []⟩) := by unfold epochI; rw [if_neg (by rw [← hr.ep]; exact hlt)]
    rw [e1]
    refine (repoch_yes h.c m la lc hk hlt).mono ?_
    rintro e w' ⟨k1, k2, k3⟩
    have kb : ∀ k, k ≠ r → k < w.heap.size → w'.heap[k]? = w.heap[k]? := fun k h1 h2 => k1.block k h2 h1
    refine ⟨Z, vl, es, m.a, ⟨⟨k2, row_kept h.c.row (fun k hk' => kb k (fun e => h.lr (by rw [hk', e])) (row_lt h.c.row hk')), fun e he => (h.c.each e he).kept (X := fun k => k ≠ r) (fun k hk' => (h.own e he k hk').2.1) ((h.ps e he).mono fun k hk' => hk'.2.1) kb k1.size⟩, h.rz, h.lz, h.lr, h.own, h.ap, h.self, h.ps, fun k hk' => Nat.lt_of_lt_of_le (h.zlt k hk') k1.size⟩, ⟨rfl, hr.len, hr.each⟩, fun k hk' => .inl hk', k1.mono fun k e => by rw [e]; exact h.rz, k3⟩
theorem kbad {Z : Nat → Prop} {w : World} {r N : Nat} {vl : Value} {es : List Ent} {ep : Int} {S : Gs} (h : DM Z w r vl es ep) (hr : RelS N es ep S) (m : Rc) (la : Option Addr) (lc : Nat) (h1 : ¬ m.kind = 1) (h5 : ¬ m.kind = 5) (hk : m.kind < 2 ∨ 6 < m.kind) :
    Calls Try.prog 13 #[.pointer (some ⟨r, 0, none⟩), recV m (.slice la m.list.length lc)] w fun e w' => AppP Z w r N (applyI S m).1 (applyI S m).2 e w' := by
  have e1 : applyI S m = (S, errT 1) := by unfold applyI; rw [if_neg h1, if_neg (by omega), if_neg h5]
  rw [e1]
  exact (rbad_any m la lc h1 h5 hk).mono fun e w' ⟨h1, h2⟩ => appP_same h hr h1 h2
end Go.Proofs.Ytdnpbhijjmlecaa

/- The document's groups: a new one is put in its place. -/
namespace Go.Proofs.Ytdnpbhijjmlecaa
open Go.RowKit Go.Maps
set_option linter.unusedSimpArgs false
set_option linter.unusedVariables false

theorem OwnE.of_lt {w : World} {es : List Ent} {r : Nat} {vl : Value} {ep : Int} (h : DC w r vl es ep) {e : Ent} (he : e ∈ es) {k : Nat} (hk : OwnE e k) : k < w.heap.size := OwnE.lt (h.each e he) hk
theorem DM.insert {Z : Nat → Prop} {w w' : World} {r : Nat} {vl vl' : Value} {es : List Ent} {ep : Int} (h : DM Z w r vl es ep) (i : Nat) (hk : Keeps (fun k => k = r) w w') (hr : w'.heap[r]? = some (.cells #[vl', .int .i64 ep] 29)) (e' : Ent) (hrow : w'.ownsRow 0 57 1 vl' (es.take i ++ e' :: es.drop i).length (ptrs (es.take i ++ e' :: es.drop i))) (he : DEnt w' e') (hown : ∀ k, OwnE e' k → w.heap.size ≤ k) (hvl : ∀ k, vl'.ownBlock = some k → w.heap.size ≤ k ∧ ¬ OwnE e' k) (hs : SelfE e') (hp : In (fun k => w.heap.size ≤ k ∧ k < w'.heap.size ∧ ¬ OwnE e' k ∧ vl'.ownBlock ≠ some k) e'.vp e'.d.parts) :
    DM (fun k => Z k ∨ (w.heap.size ≤ k ∧ k < w'.heap.size)) w' r vl' (es.take i ++ e' :: es.drop i) ep := by
  have hsz := hk.size
  have hrl : r < w.heap.size := h.zlt r h.rz
  have hmem : ∀ e, e ∈ es.take i ++ e' :: es.drop i → e = e' ∨ e ∈ es := fun e he => by
    rcases List.mem_append.1 he with h1 | h1
    · exact .inr (List.mem_of_mem_take h1)
    · rcases List.mem_cons.1 h1 with h1 | h1
      · exact .inl h1
      · exact .inr (List.mem_of_mem_drop h1)
  have hlt : ∀ e ∈ es, ∀ k, OwnE e k → k < w.heap.size := fun e he k hk' => OwnE.lt (h.c.each e he) hk'
  have hen : ∀ k, OwnE e' k → k < w'.heap.size := fun k hk' => OwnE.lt he hk'
  have hap : ∀ e ∈ es, (∀ k, OwnE e k → ¬ OwnE e' k) ∧ (∀ k, OwnE e' k → ¬ OwnE e k) := fun e hm => ⟨fun k h1 h2 => by have := hlt e hm k h1; have := hown k h2; omega, fun k h1 h2 => by have := hlt e hm k h2; have := hown k h1; omega⟩
  refine ⟨⟨hr, hrow, fun e hm => ?_⟩, .inl h.rz, fun k hk' => .inr ⟨(hvl k hk').1, row_lt hrow hk'⟩, fun e => by have := (hvl r e).1; omega, fun e hm k hk' => ?_, ?_, fun e hm => ?_, fun e hm => ?_, fun k hk' => ?_⟩
  · rcases hmem e hm with rfl | hm
    · exact he
    · exact (h.c.each e hm).kept (X := fun k => k ≠ r) (fun k hk' => (h.own e hm k hk').2.1) ((h.ps e hm).mono fun k hk' => hk'.2.1) (fun k h1 h2 => hk.block k h2 h1) hsz
  · rcases hmem e hm with rfl | hm
    · have := hown k hk'
      exact ⟨.inr ⟨this, hen k hk'⟩, by omega, fun e => (hvl k e).2 hk'⟩
    · have h1 := h.own e hm k hk'
      have := hlt e hm k hk'
      exact ⟨.inl h1.1, h1.2.1, fun e => by have := (hvl k e).1; omega⟩
  · rw [List.pairwise_append]
    refine ⟨h.ap.sublist (List.take_sublist ..), ?_, fun a ha b hb => ?_⟩
    · exact List.Pairwise.cons (fun b hb => (hap b (List.mem_of_mem_drop hb)).2) (h.ap.sublist (List.drop_sublist ..))
    · rcases List.mem_cons.1 hb with rfl | hb
      · exact (hap a (List.mem_of_mem_take ha)).1
      · have := h.ap
        rw [← List.take_append_drop i es, List.pairwise_append] at this
        exact this.2.2 a ha b hb
  · rcases hmem e hm with rfl | hm
    · exact hs
    · exact h.self e hm
  · rcases hmem e hm with rfl | hm
    · refine hp.mono fun k hk' => ⟨.inr ⟨hk'.1, hk'.2.1⟩, by omega, hk'.2.2.2, fun f hf hfo => ?_⟩
      rcases hmem f hf with rfl | hf
      · exact hk'.2.2.1 hfo
      · have := hlt f hf k hfo; omega
    · refine (h.ps e hm).mono fun k hk' => ⟨.inl hk'.1, hk'.2.1, fun e => by have := (hvl k e).1; have := h.zlt k hk'.1; omega, fun f hf hfo => ?_⟩
      rcases hmem f hf with rfl | hf
      · have := hown k hfo; have := h.zlt k hk'.1; omega
      · exact hk'.2.2.2 f hf hfo
  · rcases hk' with h1 | h1
    · have := h.zlt k h1; omega
    · exact h1.2
/-- Where a name comes. -/
def before (a b : ByteArray) : Bool := bytesBefore a.data.toList b.data.toList
def placeE (es : List Ent) (n : ByteArray) : Nat := (es.takeWhile fun e => before e.n n).length
def placeG (gs : GL) (n : List UInt8) : Nat := (gs.takeWhile fun p => !bytesBefore n p.1).length
theorem insG_at (y : List UInt8 × Gr) : ∀ gs : GL, insG y gs = gs.take (placeG gs y.1) ++ y :: gs.drop (placeG gs y.1)
  | [] => rfl
  | p :: r => by
    unfold insG placeG
    cases hb : bytesBefore y.1 p.1 with
    | true => simp [hb]
    | false =>
      have := insG_at y r
      unfold placeG at this
      simp [hb, this]
theorem less_before : ∀ a b : List UInt8, Op.bytesLess a b = bytesBefore a b
  | [], [] => rfl
  | _ :: _, [] => rfl
  | [], _ :: _ => rfl
  | a :: x, b :: y => by
    unfold Op.bytesLess bytesBefore
    rw [less_before x y]
theorem bytes_asym (a b : List UInt8) (h : bytesBefore a b = true) : bytesBefore b a = false := by
  cases hb : bytesBefore b a with
  | false => rfl
  | true => have := WideShapes.bytes_trans _ _ _ h hb; rw [WideAt.bytes_irrefl] at this; cases this
theorem place_eq {N : Nat} {es : List Ent} {ep : Int} {S : Gs} (h : RelS N es ep S) (n : ByteArray) (hno : ∀ e ∈ es, e.n ≠ n) : placeE es n = placeG S.gs n.data.toList := by
  obtain ⟨_, hlen, heach⟩ := h
  generalize S.gs = gs at *
  unfold placeE placeG
  induction es generalizing gs with
  | nil =>
    match gs, hlen with
    | [], _ => rfl
  | cons e r ih =>
    match gs, hlen, heach with
    | p :: g, hlen, heach =>
      have h0 : e.n.data.toList = p.1 := (heach 0 (by simp) (by simp)).1
      have hr := ih (fun e he => hno e (List.mem_cons_of_mem _ he)) g (by simpa using hlen) (fun i h1 h2 => heach (i + 1) (by simpa using h1) (by simpa using h2))
      have hne : e.n.data.toList ≠ n.data.toList := fun e2 => hno e (List.mem_cons_self ..) (name_eq e2)
      have hb : before e.n n = !bytesBefore n.data.toList p.1 := by
        unfold before
        rw [← h0]
        rcases WideAt.bytes_total _ _ hne with h1 | h1
        · rw [h1, bytes_asym _ _ h1]; rfl
        · rw [h1, bytes_asym _ _ h1]; rfl
      simp only [List.takeWhile_cons, hb]
      split
      · simp [hr]
      · rfl
theorem rel_insert {N M : Nat} {es : List Ent} {ep : Int} {S : Gs} (h : RelS N es ep S) (hm : N ≤ M) (n : ByteArray) (hno : ∀ e ∈ es, e.n ≠ n) (e' : Ent) (he : e'.n = n) (y : Gr) (hr : RelG M e'.d y) : RelS M (es.take (placeE es n) ++ e' :: es.drop (placeE es n)) ep { S with gs := insG (n.data.toList, y) S.gs } := by
  have hp := place_eq h n hno
  refine ⟨h.ep, ?_, ?_⟩
  · show _ = (insG _ S.gs).length
    rw [insG_at, hp]
    simp [h.len]
  · show ∀ i (h : i < _) (h' : i < (insG (n.data.toList, y) S.gs).length), _ = ((insG (n.data.toList, y) S.gs)[i]'h').1 ∧ RelG M _ ((insG (n.data.toList, y) S.gs)[i]'h').2
    rw [insG_at, show placeG S.gs (n.data.toList, y).1 = placeE es n from hp.symm]
    generalize placeE es n = q at *
    intro i h1 h2
    have hl := h.len
    simp only [List.length_append, List.length_take, List.length_cons, List.length_drop] at h1 h2
    rcases Nat.lt_trichotomy i (min q es.length) with hlt | heq | hgt
    · have e1 : (es.take q ++ e' :: es.drop q)[i] = es[i] := by
        rw [List.getElem_append_left (by simp; omega)]; simp
      have e2 : (S.gs.take q ++ (n.data.toList, y) :: S.gs.drop q)[i] = S.gs[i] := by
        rw [List.getElem_append_left (by simp; omega)]; simp
      rw [e1, e2]
      have := h.each i (by omega) (by omega)
      exact ⟨this.1, this.2.mono hm⟩
    · have e1 : (es.take q ++ e' :: es.drop q)[i] = e' := by
        rw [List.getElem_append_right (by simp; omega)]; simp [heq]
      have e2 : (S.gs.take q ++ (n.data.toList, y) :: S.gs.drop q)[i] = (n.data.toList, y) := by
        rw [List.getElem_append_right (by simp; omega)]; simp [heq, hl]
      rw [e1, e2]
      exact ⟨by rw [he], hr⟩
    · have e1 : (es.take q ++ e' :: es.drop q)[i] = es[i - 1] := by
        rw [List.getElem_append_right (by simp; omega)]
        simp only [List.length_take]
        rw [List.getElem_cons, dif_neg (by omega), List.getElem_drop]
        congr 1; omega
      have e2 : (S.gs.take q ++ (n.data.toList, y) :: S.gs.drop q)[i] = S.gs[i - 1] := by
        rw [List.getElem_append_right (by simp; omega)]
        simp only [List.length_take]
        rw [List.getElem_cons, dif_neg (by omega), List.getElem_drop]
        congr 1; omega
      rw [e1, e2]
      have := h.each (i - 1) (by omega) (by omega)
      exact ⟨this.1, this.2.mono hm⟩
end Go.Proofs.Ytdnpbhijjmlecaa

/- The document's Join: what its list check says (pure). -/
namespace Go.Proofs.Ytdnpbhijjmlecaa
set_option linter.unusedSimpArgs false
set_option linter.unusedVariables false

theorem riseB_snoc : ∀ (l : List Int) (a : Int) (k : Nat) (hk : k < l.length), riseB a (l.take (k + 1)) = (riseB a (l.take k) && decide ((if h : k = 0 then a else l[k - 1]) < l[k] ∧ l[k] ≤ 16))
  | [], a, k, hk => by simp at hk
  | x :: r, a, 0, hk => by simp [riseB]
  | x :: r, a, 1, hk => by
    match r, hk with
    | y :: r, _ => simp [riseB]
  | x :: r, a, k + 2, hk => by
    have ih := riseB_snoc r x (k + 1) (by simp only [List.length_cons] at hk; omega)
    simp only [List.take_succ_cons, riseB, Bool.and_assoc] at ih ⊢
    rw [ih]
    simp
theorem riseB_take (l : List Int) (k : Nat) (hk : k < l.length) : riseB 0 (l.take (k + 1)) = (riseB 0 (l.take k) && decide (1 ≤ l[k] ∧ l[k] ≤ 16 ∧ (k = 0 ∨ l[k - 1] < l[k]))) := by
  rw [riseB_snoc l 0 k hk]
  by_cases h0 : k = 0
  · subst h0
    simp only [List.take_zero, riseB, Bool.true_and]
    rw [decide_eq_decide]
    simp
    omega
  · cases hr : riseB 0 (l.take k) with
    | false => simp
    | true =>
      have hm : l[k - 1] ∈ l.take k := by
        rw [List.mem_take_iff_getElem]
        exact ⟨k - 1, by omega, rfl⟩
      have := rise_mem _ _ hr _ hm
      simp only [Bool.true_and]
      rw [decide_eq_decide]
      rw [dif_neg h0]
      omega
end Go.Proofs.Ytdnpbhijjmlecaa

/- The document's names of groups. -/
namespace Go.Proofs.Ytdnpbhijjmlecaa
open Go.RowKit Go.Maps
set_option maxRecDepth 100000
set_option linter.unusedSimpArgs false
set_option linter.unusedVariables false

set_option maxHeartbeats 3200000 in
theorem rright_any (s : ByteArray) (w : World) (hs : s.size ≤ maxLen) : Calls Try.prog 42 #[.string s] w fun e w' => e = .returned (.bool (nameB s)) ∧ w = w' := by
  unfold maxLen at hs
  by_cases h1 : 1 ≤ s.size
  · by_cases h2 : s.size ≤ 32
    · have HF : Hid (nameB s = s.data.toList.all isOfB) := by show _ = _; unfold nameB; simp [h1, h2]
      generalize nameB s = B at *
      have h1' : ¬ (s.size : Int) < 1 := by omega
      have h2' : ¬ (32 : Int) < (s.size : Int) := by omega
      go_enter Try.func42, Try.ntmps42
      go_wp2_with fail
      go_loopg [3] s.size (fun kx s3 wr => ∃ k : Nat, k ≤ s.size ∧ s.size - k ≤ kx ∧ s3 = .int .i64 (k : Int) ∧ Hid ((s.data.toList.take k).all isOfB = true) ∧ wr = w)
      case atStart => exact ⟨0, Nat.zero_le _, by omega, rfl, by show _ = _; simp, rfl⟩
      case round =>
        obtain ⟨k, hk, hkx, rfl, HK, rfl⟩ := hrel
        by_cases hlt : k < s.size
        · have hlt' : (k : Int) < (s.size : Int) := by omega
          have HT : Hid ((s.data.toList.take (k + 1)).all isOfB = ((s.data.toList.take k).all isOfB && isOfB s[k])) := by
            show _ = _
            rw [take_at s k hlt, List.all_append]
            simp
          have HM : Hid (isOfB s[k] = false → s.data.toList.all isOfB = false) := fun h => by
            rw [List.all_eq_false]
            exact ⟨s[k], by simp [ByteArray.getElem_eq_getElem_data], by simp [h]⟩
          have HI : Hid (isOfB s[k] = decide ((97 ≤ (s[k].toNat : Int) ∧ (s[k].toNat : Int) ≤ 122) ∨ (48 ≤ (s[k].toNat : Int) ∧ (s[k].toNat : Int) ≤ 57) ∨ (s[k].toNat : Int) = 45)) := by
            show _ = _
            unfold isOfB
            rw [Bool.eq_iff_iff]
            simp
            omega
          generalize hcb : isOfB s[k] = cb at *
          have hnn : (0 : Int) ≤ (s[k].toNat : Int) := by omega
          go_upto_region 6 with fail
          go_cut [45] from 18 to 46 (fun s45 V => s45 = .bool (!cb) ∧ V = wr)
          case first =>
            by_cases a : (s[k].toNat : Int) < 97
            · by_cases b : (s[k].toNat : Int) < 48
              · by_cases d : (s[k].toNat : Int) = 45
                · go_wp2_with fail
                  go_meet
                  case rel => exact ⟨by rw [HI.out]; generalize (s[k].toNat : Int) = n at *; clear HM HT HF HK hcb; refine congrArg Value.bool ?_; rw [Bool.eq_iff_iff]; simp; omega, rfl⟩
                · go_wp2_with fail
                  go_meet
                  case rel => exact ⟨by rw [HI.out]; generalize (s[k].toNat : Int) = n at *; clear HM HT HF HK hcb; refine congrArg Value.bool ?_; rw [Bool.eq_iff_iff]; simp; omega, rfl⟩
              · by_cases c : 57 < (s[k].toNat : Int)
                · by_cases d : (s[k].toNat : Int) = 45
                  · omega
                  · go_wp2_with fail
                    go_meet
                    case rel => exact ⟨by rw [HI.out]; generalize (s[k].toNat : Int) = n at *; clear HM HT HF HK hcb; refine congrArg Value.bool ?_; rw [Bool.eq_iff_iff]; simp; omega, rfl⟩
                · go_wp2_with fail
                  go_meet
                  case rel => exact ⟨by rw [HI.out]; generalize (s[k].toNat : Int) = n at *; clear HM HT HF HK hcb; refine congrArg Value.bool ?_; rw [Bool.eq_iff_iff]; simp; omega, rfl⟩
            · by_cases b : 122 < (s[k].toNat : Int)
              · have c : 57 < (s[k].toNat : Int) := by omega
                have c' : ¬ (s[k].toNat : Int) < 48 := by omega
                have d : ¬ (s[k].toNat : Int) = 45 := by omega
                go_wp2_with fail
                go_meet
                case rel => exact ⟨by rw [HI.out]; generalize (s[k].toNat : Int) = n at *; clear HM HT HF HK hcb; refine congrArg Value.bool ?_; rw [Bool.eq_iff_iff]; simp; omega, rfl⟩
              · go_wp2_with fail
                go_meet
                case rel => exact ⟨by rw [HI.out]; generalize (s[k].toNat : Int) = n at *; clear HM HT HF HK hcb; refine congrArg Value.bool ?_; rw [Bool.eq_iff_iff]; simp; omega, rfl⟩
          case rest =>
          obtain ⟨rfl, hw⟩ := hcut
          subst hw
          cases cb with
          | false =>
            have HM2 := hid (HM.out rfl)
            clear HM HT HI
            go_wp2_with fail
            go_ret
            exact ⟨ret_bool (by rw [HF.out, HM2.out]), rfl⟩
          | true =>
            have HK2 : Hid ((s.data.toList.take (k + 1)).all isOfB = true) := by show _ = _; rw [HT.out, HK.out]; rfl
            clear HM HT HI
            go_wp2_with fail
            go_roundg (s.size - (k + 1))
            case measure => omega
            case rel => exact ⟨k + 1, by omega, Nat.le_refl _, by go_num, HK2.out, rfl⟩
        · have hlt' : ¬ (k : Int) < (s.size : Int) := by omega
          go_wp2_with fail
          go_ret
          have hn := HK.out
          rw [List.take_of_length_le (by simp; omega)] at hn
          exact ⟨ret_bool (by rw [HF.out, hn]), rfl⟩
    · have HF : Hid (nameB s = false) := by show _ = _; unfold nameB; simp [h2]
      have h1' : ¬ (s.size : Int) < 1 := by omega
      have h2' : (32 : Int) < (s.size : Int) := by omega
      go_enter Try.func42, Try.ntmps42
      go_wp2_with fail
      go_ret
      exact ⟨ret_bool HF.out.symm, rfl⟩
  · have HF : Hid (nameB s = false) := by show _ = _; unfold nameB; simp [h1]
    have h1' : (s.size : Int) < 1 := by omega
    go_enter Try.func42, Try.ntmps42
    go_wp2_with fail
    go_ret
    exact ⟨ret_bool HF.out.symm, rfl⟩
end Go.Proofs.Ytdnpbhijjmlecaa

