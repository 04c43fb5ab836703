/- Commit. -/
import Derived.Test.YtdnpbhijjmlecaaG15
import Derived.Test.YtdnpbhijjmlecaaG9
import Derived.Deep.CutRange
import Derived.Deep.CutBlock
namespace Go.Proofs.Ytdnpbhijjmlecaa
open Go.RowKit Go.Maps
set_option maxRecDepth 100000
set_option linter.unusedSimpArgs false
set_option linter.unusedVariables false

/-- One cell of a row is another. -/
theorem row_cell {w : World} {T : TypeId} {m g n c len : Nat} {vs : List Value} (h : w.ownsRow 0 T m (.slice (some ⟨g, 0, none⟩) n c) len vs) (j : Nat) (y : Value) : (w.setCell ⟨g, j, none⟩ y).ownsRow 0 T m (.slice (some ⟨g, 0, none⟩) n c) len (vs.set j y) := by
  obtain ⟨h1, ⟨e, h0⟩ | ⟨g', cap', cur, e, hB, hg, hn, hc, hs, ht⟩⟩ := h
  · cases e
  · cases e
    refine ⟨by simpa using h1, .inr ⟨g, c, cur.setIfInBounds j y, rfl, hB, set_box hg, hn, hc, by simpa using hs, ?_⟩⟩
    rw [← ht]
    simp only [Array.toList_setIfInBounds]
    rw [List.take_set]
theorem flatM_set : ∀ (l : List Mb) (i : Nat) (n : Int), i < l.length → (flatM l).set (i * 2 + 1) (.int .i64 n) = flatM (setNum l i n)
  | [], i, n, h => by simp at h
  | m :: r, 0, n, h => rfl
  | m :: r, i + 1, n, h => by
    have ih := flatM_set r i n (by simpa using h)
    show (_ :: _ :: flatM r).set ((i + 1) * 2 + 1) _ = _ :: _ :: flatM (setNum r i n)
    rw [← ih, show (i + 1) * 2 + 1 = i * 2 + 1 + 1 + 1 by omega]
    rfl
theorem setNum_length (l : List Mb) (i : Nat) (n : Int) : (setNum l i n).length = l.length := by simp [setNum]
section
variable {w : World} {q ob : Nat} {vm vp : Value} {x : Gr}
theorem GrC.put (h : GrC w q vm vp ob x) (hl : x.offs.length ≤ 1000) (n v : Int) (hn : I64 n) :
    ∃ w', (Instr.mapUpdate 70 (.map (some ob)) (.int .i64 n) (.int .i64 v)).run Try.prog w = .ok () w' ∧ GrC w' q vm vp ob { x with offs := putO x.offs n v } ∧ w.grownBy w' (some ob) := by
  obtain ⟨w', hrun, hown, ht⟩ := h.offs.store law3 Try.underlying70 (by unfold maxLen; omega) (keyOf_int_mk Try.underlying3 (wf_of hn)) (show Ro (.int .i64 v) = some (.held (.int .i64 v), []) from rfl)
  have hg := ht.grown
  have hk : Keeps (Own q vm ob) w w' := Keeps.of_grown hg (fun k hk => by cases hk; exact .inr (.inl rfl))
  refine ⟨w', hrun, ⟨(hg.block q (h.lt (.inl rfl)) (fun e => h.ne_qo (by cases e; rfl))).trans h.cells, row_kept h.mem (fun k hk => hg.block k (row_lt h.mem hk) (fun e => by cases e; exact h.ne_om hk)), h.parts.keeps hk h.apart, ?_, h.apart⟩, hg⟩
  rw [omap_put] at hown
  have := tightO hown
  rw [omap_size] at this
  exact this
theorem GrC.num {g n cap : Nat} (h : GrC w q (.slice (some ⟨g, 0, none⟩) n cap) vp ob x) (i : Nat) (hi : i < x.mem.length) (v : Int) : GrC (w.setCell ⟨g, i * 2 + 1, none⟩ (.int .i64 v)) q (.slice (some ⟨g, 0, none⟩) n cap) vp ob { x with mem := setNum x.mem i v } ∧ Keeps (Own q (.slice (some ⟨g, 0, none⟩) n cap) ob) w (w.setCell ⟨g, i * 2 + 1, none⟩ (.int .i64 v)) := by
  have hqg : q ≠ g := fun e => h.ne_qm (by rw [e]; rfl)
  have hog : ob ≠ g := fun e => h.ne_om (by rw [e]; rfl)
  have hk : Keeps (Own q (.slice (some ⟨g, 0, none⟩) n cap) ob) w (w.setCell ⟨g, i * 2 + 1, none⟩ (.int .i64 v)) := Keeps.set w (a := ⟨g, i * 2 + 1, none⟩) (.inr (.inr rfl)) _
  refine ⟨⟨(Below.heap_setCell _ _ _ _ hqg).trans h.cells, ?_, h.parts.keeps hk h.apart, ?_, h.apart⟩, hk⟩
  · have := row_cell h.mem (i * 2 + 1) (.int .i64 v)
    rw [flatM_set _ _ _ hi] at this
    show World.ownsRow _ 0 84 2 _ (setNum x.mem i v).length _
    rw [setNum_length]
    exact this
  · obtain ⟨es, clock, hm, r⟩ := h.offs
    exact ⟨es, clock, (Below.heap_setCell _ _ _ _ hog).trans hm, r⟩
end
theorem comE_zero {x : Gr} {m : Rc} {N : Nat} (hok : GrOk N x) (h : comE x m = 0) : hasM x m.a = true ∧ m.b = x.gen ∧ offB m.d = true ∧ (∃ n, m.list = [n] ∧ offB n = true ∧ ¬ n ≤ numOf x m.a) ∧ ownerI x m.c = m.a ∧ 1 ≤ m.c ∧ m.c ≤ 16 := by
  unfold comE at h
  split at h
  · omega
  · rename_i h0
    obtain ⟨h1, h2⟩ := memE_has (by omega : memE x m = 0)
    split at h
    · omega
    · rename_i h3
      split at h
      · omega
      · rename_i h4
        split at h
        · omega
        · rename_i h5
          have h5' : ownerI x m.c = m.a := by omega
          have hd : offB m.d = true := by cases hb : offB m.d with | true => rfl | false => exact absurd (.inl hb) h3
          have ho : oneB m.list = true := by cases hb : oneB m.list with | true => rfl | false => exact absurd (.inr hb) h3
          unfold oneB at ho
          simp only [Bool.and_eq_true, decide_eq_true_eq] at ho
          obtain ⟨n, hn⟩ := one_of ho.1
          refine ⟨h1, h2, hd, ⟨n, hn, by have := ho.2; rw [hn] at this; exact this, by rw [hn] at h4; exact h4⟩, h5', ?_⟩
          have ha : 1 ≤ m.a := by
            unfold hasM at h1
            obtain ⟨p, hp⟩ := Option.isSome_iff_exists.1 h1
            obtain ⟨mb, hmb, hid1, hpl⟩ := place_some hp
            have := hok.mems mb (List.mem_of_getElem? hmb)
            omega
          have hmem : ∀ (r : List Mb) (i : Nat), ownFrom x m.c i r ≠ 0 → m.c ∈ x.parts := by
            intro r
            induction r with
            | nil => intro i hi; exact absurd rfl hi
            | cons y r ih =>
              intro i hi
              unfold ownFrom at hi
              split at hi
              · rename_i hh
                exact shareL_mem (hasB_iff.1 hh)
              · exact ih _ hi
          have := rise_mem x.parts 0 hok.parts m.c (hmem x.mem 0 (by unfold ownerI at h5'; omega))
          omega
set_option maxHeartbeats 6400000 in
theorem commit_any {w : World} {Z : Nat → Prop} {q : Nat} {x : Gr} {N : Nat} (h : GrM w Z q x) (hok : GrOk N x) (m : Rc) (hrc : RcOk m) (la : Option Addr) (lc : Nat) (hl : IL w (.slice la m.list.length lc) m.list) (hlz : In (fun k => ¬ Z k) (.slice la m.list.length lc) m.list) :
    Calls Try.prog 61 #[.pointer (some ⟨q, 0, none⟩), recV m (.slice la m.list.length lc)] w fun e w' => OutG Z w w' q (commitI x m).1 (commitI x m).2 e := by
  have hf : x.mem.length ≤ 1000 := by have := hok.few; omega
  have h64 : ∀ y ∈ x.mem, I64 y.id := fun y hy => by have := hok.mems y hy; have := hok.ever; unfold I64; omega
  obtain ⟨vm, vp, ob, h, ho, hin, hz⟩ := h
  have hT := tb_new Z w (recA m (.slice la m.list.length lc)) zTd
  have HT := hid hT
  have hbW : Below w.heap.size w ((w.alloc (.cells (recA m (.slice la m.list.length lc)) 32)).alloc (.cells zTd 36)) := (tb_new (fun _ => False) w (recA m (.slice la m.list.length lc)) zTd).k.base
  have HBW := hid hbW
  have HG := hid (h.under hbW)
  have HO := hid ho
  have HIN := hid hin
  have HZ := hid hz
  have HCE := hid (comE_any HG.out.read hf h64 m hrc.2.2.2.1 la lc (hl.under hbW))
  have HL := hid (hl.under hbW)
  have a0 := cell_blk hT.x 0 _ rfl
  have a1 := cell_blk hT.x 1 _ rfl
  have a2 := cell_blk hT.x 2 _ rfl
  have a3 := cell_blk hT.x 3 _ rfl
  have a4 := cell_blk hT.x 4 _ rfl
  have a5 := cell_blk hT.x 5 _ rfl
  have a6 := cell_blk hT.x 6 _ rfl
  have a7 := cell_blk hT.x 7 _ rfl
  have hq := h.lt (.inl rfl)
  have HC : Hid (∀ V, Below ((w.alloc (.cells (recA m (.slice la m.list.length lc)) 32)).alloc (.cells zTd 36)).heap.size ((w.alloc (.cells (recA m (.slice la m.list.length lc)) 32)).alloc (.cells zTd 36)) V → TB Z w V (recA m (.slice la m.list.length lc)) zTd) := fun V hV => HT.out.under hV
  have HOL : Hid (∀ k, Own q vm ob k → k < w.heap.size) := fun k hk => hz k (ho k hk)
  have HCZ := hid (comE_zero (m := m) hok)
  have HCI : Hid (commitI x m = if comE x m ≠ 0 then (x, errT (comE x m)) else ({ x with offs := putO x.offs m.c m.d, mem := setNum x.mem ((placeN x.mem m.a).getD 0) (m.list.headD 0) }, ⟨0, m.a, x.gen, m.d, []⟩)) := rfl
  have HLZ := hid hlz
  have HOLEN := hid hok.olen
  have HRC := hid hrc
  unfold recV recA zTd at *
  rw [HCI.out]
  clear h hT hbW ho hin hz hl hlz HCI hok h64 hrc
  generalize comE x m = E0 at *
  by_cases h0 : E0 = 0
  · subst h0
    rw [if_neg (by simp)]
    obtain ⟨z1, zb, zd, ⟨n, hn, hn2, zz⟩, zo, zc⟩ := HCZ.out rfl
    clear zb zo zz
    obtain ⟨p, hp⟩ := Option.isSome_iff_exists.1 (show (placeN x.mem m.a).isSome = true from z1)
    obtain ⟨mb, hmb, hid1, hpl⟩ := place_some hp
    have hpi : placeI x.mem m.a = p := by unfold placeI; rw [hp]
    have hhd : m.list.headD 0 = n := by rw [hn]; rfl
    have hln : m.list.length = 1 := by rw [hn]; rfl
    rw [hp, hhd]
    simp only [Option.getD_some]
    have hcl : ∃ b o, la = some ⟨b, o, none⟩ ∧ ¬ Z b ∧ b < w.heap.size + 2 ∧ ((w.alloc (.cells (recA m (.slice la m.list.length lc)) 32)).alloc (.cells zTd 36)).cell? ⟨b, o, none⟩ = some (.int .i64 n) := by
      have hne : m.list ≠ [] := by rw [hn]; simp
      obtain ⟨⟨a', c', e', _, _, _, hat⟩, _⟩ := HL.out
      simp only [Value.slice.injEq] at e'
      obtain ⟨b, o, e2, hlt, hcc⟩ := hat hne
      have hla := e'.1.trans e2
      have := hcc 0 (by rw [hn]; simp)
      have e3 : m.list[0]'(by rw [hn]; simp) = n := by simp [hn]
      rw [e3] at this
      exact ⟨b, o, hla, HLZ.out hne b o _ _ (by rw [hla]), by simpa using hlt, this⟩
    obtain ⟨lb, lo, rfl, hlbz, hlb2, hlc⟩ := hcl
    have HPL : Hid (∀ V y, GrC V q vm vp ob y → y.mem = x.mem → Calls Try.prog 59 #[.pointer (some ⟨q, 0, none⟩), .int .i64 m.a] V fun e w' => e = .returned (.int .i64 (p : Int)) ∧ Below V.heap.size V w') := fun V y hV hy => by rw [← hpi, ← hy]; exact place_any hV.read (by rw [hy]; exact hf) m.a
    obtain ⟨oa, cap, rfl, hcap, hcm, _, hat⟩ := row_shape HG.out.mem
    obtain ⟨g, rfl⟩ := hat (by omega)
    have hgl := HOL.out g (.inr (.inr rfl))
    have hol := HOL.out ob (.inr (.inl rfl))
    have hqg : ¬ q = g := fun e => HG.out.ne_qm (by rw [e]; rfl)
    have hgq : ¬ g = q := fun e => hqg e.symm
    have hlg : ¬ lb = g := fun e => hlbz (HO.out lb (.inr (.inr (by rw [e]; rfl))))
    have hgl2 : ¬ g = lb := fun e => hlg e.symm
    have HLO : Hid (¬ Own q (.slice (some ⟨g, 0, none⟩) x.mem.length cap) ob lb) := fun hk => hlbz (HO.out lb hk)
    have HPUT : Hid (∀ V, Below ((w.alloc (.cells (recA m (.slice (some ⟨lb, lo, none⟩) m.list.length lc)) 32)).alloc (.cells zTd 36)).heap.size ((w.alloc (.cells (recA m (.slice (some ⟨lb, lo, none⟩) m.list.length lc)) 32)).alloc (.cells zTd 36)) V → ∃ w', (Instr.mapUpdate 70 (.map (some ob)) (.int .i64 m.c) (.int .i64 m.d)).run Try.prog V = .ok () w' ∧ GrC w' q (.slice (some ⟨g, 0, none⟩) x.mem.length cap) vp ob { x with offs := putO x.offs m.c m.d } ∧ V.grownBy w' (some ob)) := fun V hV => (HG.out.under hV).put (by have := HOLEN.out; omega) m.c m.d HRC.out.2.2.2.1
    have HC4 : Hid (∀ V, Below ((w.alloc (.cells (recA m (.slice (some ⟨lb, lo, none⟩) m.list.length lc)) 32)).alloc (.cells zTd 36)).heap.size ((w.alloc (.cells (recA m (.slice (some ⟨lb, lo, none⟩) m.list.length lc)) 32)).alloc (.cells zTd 36)) V → V.cell? ⟨q, 4, none⟩ = some (.map (some ob))) := fun V hV => (HG.out.under hV).read.c4
    have HLC := hid hlc
    have HPLL := hid hpl
    have hp0 : (0 : Int) ≤ (p : Int) := by omega
    have hp1 : (p : Int) < (x.mem.length : Int) := by omega
    have hxg : ¬ w.heap.size = g := by omega
    have hgx : ¬ g = w.heap.size := by omega
    have hyg : ¬ w.heap.size + 1 = g := by omega
    have hgy : ¬ g = w.heap.size + 1 := by omega
    clear hp hmb hid1 hpi hhd z1 hcap hcm hat hlc zd hn2 zc HCZ HL
    unfold recA zTd at *
    obtain ⟨x1, hx1⟩ : ∃ x1 : Gr, x1 = { x with offs := putO x.offs m.c m.d } := ⟨_, rfl⟩
    rw [← hx1] at HPUT
    have HX1 : Hid (x1.mem = x.mem) := by show _ = _; rw [hx1]
    obtain ⟨x2, hx2⟩ : ∃ x2 : Gr, x2 = { x with offs := putO x.offs m.c m.d, mem := setNum x.mem p n } := ⟨_, rfl⟩
    have HX2 : Hid (x2 = { x1 with mem := setNum x1.mem p n }) := by show _ = _; rw [hx2, hx1]
    have HX2P : Hid (x2.parts = x.parts) := by show _ = _; rw [hx2]
    rw [← hx2]
    have HXG : Hid (x2.gen = x.gen) := by show _ = _; rw [hx2]
    clear hx1 hx2
    rw [hln] at *
    clear hln hn
    go_enter Try.func61, Try.ntmps61
    go_wp2_with fail
    generalize (w.alloc (.cells #[.int .i64 m.kind, .int .i64 m.a, .int .i64 m.b, .int .i64 m.c, .int .i64 m.d, .string m.name, .string m.text, .slice (some ⟨lb, lo, none⟩) 1 lc] 32)).alloc (.cells #[.int .i64 0, .int .i64 0, .int .i64 0, .int .i64 0, .slice none 0 0] 36) = W at *
    refine HCE.out.mono ?_
    rintro e w1 ⟨rfl, hb1⟩
    have ht1 := HC.out w1 hb1
    obtain ⟨w2, hup, hG2, hg2⟩ := HPUT.out w1.drew hb1.drew
    have HG2 := hid hG2
    have hk2 : Keeps (Own q (.slice (some ⟨g, 0, none⟩) x.mem.length cap) ob) w1 w2 := ((Keeps.refl _ w1).drew.trans (Keeps.of_grown (S := Own q (.slice (some ⟨g, 0, none⟩) x.mem.length cap) ob) hg2 (fun k hk => by cases hk; exact .inr (.inl rfl))) (fun _ k => .inl k))
    have ht2 := ht1.next hk2 (fun k hk => .inl (HO.out k hk)) (fun hk => by have := HOL.out _ hk; omega) (fun hk => by have := HOL.out _ hk; omega)
    have HT2 := hid ht2
    have HLC2 : Hid (w2.cell? ⟨lb, lo, none⟩ = some (.int .i64 n)) := (World.cell?_of_block (a := ⟨lb, lo, none⟩) (hk2.block lb (by have := ht1.s; omega) HLO.out)).trans (kept_cell hb1 HLC.out)
    have b3 := cell_blk ht1.x 3 _ rfl
    have b4 := cell_blk ht1.x 4 _ rfl
    have c4 := HC4.out w1 hb1
    clear hb1 ht1 hG2 hg2 hk2 ht2 HPUT HCE HC HC4 HLC a0 a1 a2 a3 a4 a5 a6 a7
    go_wp2_with fail
    go_cut [] from 13 to 21 (fun V => V = w2)
    case first =>
      go_region_with (fail)
      all_goals
        go_wp2_with fail
        go_meet
        case rel => rfl
    case rest =>
      subst hcut
      clear hup b3 b4 c4
      have c2 := HG2.out.read.c2
      have b1 := cell_blk HT2.out.x 1 _ rfl
      have b7 := cell_blk HT2.out.x 7 _ rfl
      have l1 := HLC2.out
      have HPL2 : Hid (∀ V, Below wc.heap.size wc V → Calls Try.prog 59 #[.pointer (some ⟨q, 0, none⟩), .int .i64 m.a] V fun e w' => e = .returned (.int .i64 (p : Int)) ∧ Below V.heap.size V w') := fun V hV => HPL.out V x1 (HG2.out.under hV) HX1.out
      have HKK : Hid (∀ V, Below wc.heap.size wc V → V.cell? ⟨q, 2, none⟩ = some (.slice (some ⟨g, 0, none⟩) x.mem.length cap) ∧ V.cell? ⟨w.heap.size, 1, none⟩ = some (.int .i64 m.a) ∧ V.cell? ⟨w.heap.size, 7, none⟩ = some (.slice (some ⟨lb, lo, none⟩) 1 lc) ∧ V.cell? ⟨lb, lo, none⟩ = some (.int .i64 n) ∧ (∃ u, V.cell? ⟨g, p * 2 + 1, none⟩ = some (.int .i64 u)) ∧ V.frozen? ⟨g, p * 2 + 1, none⟩ = false) := fun V hV => by
        have hGV := HG2.out.under hV
        have hmm := hGV.mem
        obtain ⟨cur, hcur⟩ := row_blk hmm (k := g) rfl
        have hpx : p < x1.mem.length := by rw [HX1.out]; exact HPLL.out
        exact ⟨hGV.read.c2, kept_cell hV b1, kept_cell hV b7, kept_cell hV HLC2.out, ⟨_, (row_mem hmm p x1.mem[p] (by simp [hpx])).2⟩, frz_blk hcur _⟩
      have HPX1 : Hid (p < x1.mem.length) := by show _ < _; rw [HX1.out]; exact HPLL.out
      clear HPL
      generalize x.mem.length = K at *
      go_wp2_with fail
      go_region_held3 (fun V => V.cell? ⟨q, 2, none⟩ = some (.slice (some ⟨g, 0, none⟩) K cap) ∧ V.cell? ⟨w.heap.size, 1, none⟩ = some (.int .i64 m.a) ∧ V.cell? ⟨w.heap.size, 7, none⟩ = some (.slice (some ⟨lb, lo, none⟩) 1 lc) ∧ V.cell? ⟨lb, lo, none⟩ = some (.int .i64 n)) (go_keep)
        (first | (go_at_call 59; refine (HPL2.out _ (by first | exact Below.refl _ _ | exact (Below.refl _ _).drew)).mono ?_; rintro e w3 ⟨rfl, hb3⟩; have HB3 := hid ((show Below wc.heap.size wc _ by first | exact Below.refl _ _ | exact (Below.refl _ _).drew).trans hb3); obtain ⟨f1, f2, f3, f4, ⟨u5, f5⟩, f6⟩ := HKK.out w3 HB3.out; clear hb3) | fail)
      go_upto_region 6 with fail
      have hg3 := HG2.out.under HB3.out
      obtain ⟨hg4, hk4⟩ := hg3.num p HPX1.out n
      rw [← HX2.out] at hg4
      have HG4 := hid hg4
      have ht4 := (HT2.out.under HB3.out).next hk4 (fun k hk => .inl (HO.out k hk)) (fun hk => by have := HOL.out _ hk; omega) (fun hk => by have := HOL.out _ hk; omega)
      have HT4 := hid ht4
      clear hg3 hg4 hk4 ht4 f1 f2 f3 f4 f5 f6 HPL2 HKK b1 b7 l1 c2
      generalize w3.setCell ⟨g, p * 2 + 1, none⟩ (.int .i64 n) = W4 at *
      have b1 := cell_blk HT4.out.x 1 _ rfl
      have b4 := cell_blk HT4.out.x 4 _ rfl
      have c0 := HG4.out.read.c0
      have z0 := cell_blk HT4.out.z 0 _ rfl
      have z1 := cell_blk HT4.out.z 1 _ rfl
      have z2 := cell_blk HT4.out.z 2 _ rfl
      have z3 := cell_blk HT4.out.z 3 _ rfl
      have z4 := cell_blk HT4.out.z 4 _ rfl
      have fz := frz_blk HT4.out.z
      have hn1 : ¬ q = w.heap.size + 1 := by omega
      have hn2 : ¬ w.heap.size + 1 = q := by omega
      rw [HXG.out] at c0
      go_wp2_with fail
      go_region_held3 (fun V => V.cell? ⟨q, 0, none⟩ = some (.int .i64 x.gen) ∧ V.cell? ⟨w.heap.size, 1, none⟩ = some (.int .i64 m.a) ∧ V.cell? ⟨w.heap.size, 4, none⟩ = some (.int .i64 m.d)) (go_keep) (fail)
      go_wp2_with fail
      clear z0 z1 z2 z3 z4 fz
      have HT5 := hid ((HT4.out).five rfl (.int .i64 0) (.int .i64 m.a) (.int .i64 x.gen) (.int .i64 m.d) (.slice none 0 0))
      have HK5 := hid (five_keeps (W4) (w.heap.size + 1) (.int .i64 0) (.int .i64 m.a) (.int .i64 x.gen) (.int .i64 m.d) (.slice none 0 0))
      unfold five at HT5 HK5
      generalize ((((W4.setCell ⟨w.heap.size + 1, 0, none⟩ (.int .i64 0)).setCell ⟨w.heap.size + 1, 1, none⟩ (.int .i64 m.a)).setCell ⟨w.heap.size + 1, 2, none⟩ (.int .i64 x.gen)).setCell ⟨w.heap.size + 1, 3, none⟩ (.int .i64 m.d)).setCell ⟨w.heap.size + 1, 4, none⟩ (.slice none 0 0) = N5 at *
      have r0 := cell_blk HT5.out.z 0 _ rfl
      have r1 := cell_blk HT5.out.z 1 _ rfl
      have r2 := cell_blk HT5.out.z 2 _ rfl
      have r3 := cell_blk HT5.out.z 3 _ rfl
      have r4 := cell_blk HT5.out.z 4 _ rfl
      exact bodyPost_ret (v := .agg #[.int .i64 0, .int .i64 m.a, .int .i64 x.gen, .int .i64 m.d, .slice none 0 0]) (by simp [results, Try.results61, go_sem, r0, r1, r2, r3, r4]) rfl (by
        have hin3 : In Z vp x2.parts := by rw [HX2P.out]; exact HIN.out
        exact ⟨Z, ⟨.slice (some ⟨g, 0, none⟩) K cap, vp, ob, (HG4.out.kept HO.out hin3 (fun k hk => HK5.out.block k (by have := HZ.out k hk; have := HT4.out.s; omega) (fun e => by have := HZ.out k hk; omega)) HK5.out.size).under (Below.refl _ _).drew, HO.out, hin3, fun k hk => Nat.lt_of_lt_of_le (HZ.out k hk) HT5.out.k.drew.size⟩, fun k hk => .inl hk, HT5.out.k.drew, told_nil⟩)
  · rw [if_pos h0]
    have h0' : (E0 == 0) = false := by simpa using h0
    clear HCZ
    go_enter Try.func61, Try.ntmps61
    go_wp2_with fail
    generalize (w.alloc (.cells #[.int .i64 m.kind, .int .i64 m.a, .int .i64 m.b, .int .i64 m.c, .int .i64 m.d, .string m.name, .string m.text, .slice la m.list.length lc] 32)).alloc (.cells #[.int .i64 0, .int .i64 0, .int .i64 0, .int .i64 0, .slice none 0 0] 36) = W at *
    refine HCE.out.mono ?_
    rintro e w1 ⟨rfl, hb1⟩
    have ht1 := HC.out w1 hb1
    have z0 := cell_blk ht1.z 0 _ rfl
    have z1 := cell_blk ht1.z 1 _ rfl
    have z2 := cell_blk ht1.z 2 _ rfl
    have z3 := cell_blk ht1.z 3 _ rfl
    have z4 := cell_blk ht1.z 4 _ rfl
    have fz := frz_blk ht1.z
    have HT1 := hid ht1
    have HB1 := hid hb1
    clear hb1 ht1 a0 a1 a2 a3 a4 a5 a6 a7 HCE HC
    go_wp2_with fail
    clear z0 z1 z2 z3 z4 fz
    have HT5 := hid ((HT1.out).five rfl (.int .i64 E0) (.int .i64 0) (.int .i64 0) (.int .i64 0) (.slice none 0 0))
    have HK5 := hid (five_keeps (w1) (w.heap.size + 1) (.int .i64 E0) (.int .i64 0) (.int .i64 0) (.int .i64 0) (.slice none 0 0))
    unfold five at HT5 HK5
    generalize ((((w1.setCell ⟨w.heap.size + 1, 0, none⟩ (.int .i64 E0)).setCell ⟨w.heap.size + 1, 1, none⟩ (.int .i64 0)).setCell ⟨w.heap.size + 1, 2, none⟩ (.int .i64 0)).setCell ⟨w.heap.size + 1, 3, none⟩ (.int .i64 0)).setCell ⟨w.heap.size + 1, 4, none⟩ (.slice none 0 0) = N5 at *
    have r0 := cell_blk HT5.out.z 0 _ rfl
    have r1 := cell_blk HT5.out.z 1 _ rfl
    have r2 := cell_blk HT5.out.z 2 _ rfl
    have r3 := cell_blk HT5.out.z 3 _ rfl
    have r4 := cell_blk HT5.out.z 4 _ rfl
    exact bodyPost_ret (v := .agg #[.int .i64 E0, .int .i64 0, .int .i64 0, .int .i64 0, .slice none 0 0]) (by simp [results, Try.results61, go_sem, r0, r1, r2, r3, r4]) rfl (⟨Z, ⟨vm, vp, ob, (HG.out.under HB1.out).kept HO.out HIN.out (fun k hk => HK5.out.block k (by have := HZ.out k hk; have := HT1.out.s; omega) (fun e => by have := HZ.out k hk; omega)) HK5.out.size, HO.out, HIN.out, fun k hk => Nat.lt_of_lt_of_le (HZ.out k hk) HT5.out.k.size⟩, fun k hk => .inl hk, HT5.out.k, told_nil⟩)
end Go.Proofs.Ytdnpbhijjmlecaa
